"""Plans: the bounds of cells, the ways of sources, and all plans of a question."""

from tablestore.conditions import parts_of, speaks_of, table_of, together
from tablestore.values import compare

# A sign as it reads from the other side.
TURNED = {"=": "=", "<>": "<>", "<": ">", "<=": ">=", ">": "<", ">=": "<="}
LOW_SIGNS = ("=", ">", ">=")
HIGH_SIGNS = ("=", "<", "<=")


def bounds_of(tree, k, place):
    low = ()
    high = ()
    for told in tests_by_value(parts_of(tree[2]), ("cell", k, place)):
        bound = (told[1], "=" in told[0])
        if told[0] in LOW_SIGNS and (low == () or is_narrower(bound, low, 1)):
            low = bound
        if told[0] in HIGH_SIGNS and (high == () or is_narrower(bound, high, -1)):
            high = bound
    return (low, high)


# The signs and values by which parts test a cell, as if it stood first.
def tests_by_value(parts, cell):
    found = []
    for part in parts:
        if part[0] == "test":
            if part[2] == cell and part[3][0] == "value":
                found.append((part[1], part[3][1]))
            if part[3] == cell and part[2][0] == "value":
                found.append((TURNED[part[1]], part[2][1]))
    return found


# Low bounds are narrower the further behind (1), high ones the further ahead (-1).
def is_narrower(bound, other, side):
    told = compare(bound[0], other[0])
    return told == side or told == 0 and not bound[1]


def ways(tree, state, k):
    table = table_of(tree, state, k)
    found = [("walk", k)]
    for place, column in enumerate(table.shape[1]):
        bounds = bounds_of(tree, k, place)
        if column[0] in table.indexes and bounds != ((), ()):
            found.append(("seek", k, place, bounds[0], bounds[1]))
    return found


def plans(tree, state):
    made = []
    for order in orders_of(list(range(len(tree[1])))):
        made.extend(plans_in_order(tree, state, order))
    return [("sort", plan, tree[3]) for plan in made]


# All orders of the numbers, the least first.
def orders_of(numbers):
    if len(numbers) == 0:
        return [[]]
    orders = []
    for number in numbers:
        others = [other for other in numbers if other != number]
        orders.extend([[number] + order for order in orders_of(others)])
    return orders


def plans_in_order(tree, state, order):
    parts = parts_of(tree[2])
    first = order[0]
    alone = [part for part in parts if speaks_of(part) == [] or speaks_of(part) == [first]]
    made = [sieved(way, alone) for way in ways(tree, state, first)]
    for place in range(1, len(order)):
        joined = order[:place]
        joints = joints_of(tree, state, order[place], joined)
        wider = []
        for plan in made:
            wider.extend([sieved(with_plan(joint[0], plan), joint[1]) for joint in joints])
        made = wider
    return made


def sieved(plan, parts):
    return plan if len(parts) == 0 else ("sieve", plan, together(parts))


# All plans by which source k is joined, each still without the plan of those joined already
# (None stands in its place), and with the parts by which it is sieved then.
def joints_of(tree, state, k, joined):
    parts = parts_of(tree[2])
    alone = [part for part in parts if speaks_of(part) == [k]]
    across = [part for part in parts if speaks_across(part, k, joined)]
    either = [part for part in parts if speaks_of(part) == [k] or speaks_across(part, k, joined)]
    equals = equals_of(parts, k, joined)
    indexed = indexed_places(tree, state, k)
    walk = sieved(("walk", k), alone)
    joints = [(("pair", None, sieved(way, alone)), across) for way in ways(tree, state, k)]
    for mine, other in equals:
        if mine[2] in indexed:
            joints.append((("match", None, k, mine[2], other[1], other[2]), either))
    for mine, other in equals:
        joints.append((("merge", None, walk, other[1], other[2], k, mine[2]), across))
    return joints


def with_plan(joint, plan):
    return (joint[0], plan) + joint[2:]


# Of k and of joined sources, one at least, and of no others.
def speaks_across(part, k, joined):
    spoken = speaks_of(part)
    return k in spoken and len(spoken) > 1 and all([number == k or number in joined for number in spoken])


# For each part that tests by `=` a cell of k and one of a joined source: both cells, that of k first.
def equals_of(parts, k, joined):
    found = []
    for part in parts:
        if part[0] == "test" and part[1] == "=" and speaks_across(part, k, joined):
            if part[2][1] == k:
                found.append((part[2], part[3]))
            else:
                found.append((part[3], part[2]))
    return found


def indexed_places(tree, state, k):
    table = table_of(tree, state, k)
    return [place for place, column in enumerate(table.shape[1]) if column[0] in table.indexes]
