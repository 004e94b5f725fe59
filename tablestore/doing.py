"""What plans give, and the answers of questions."""

from tablestore.conditions import holds, table_of, value_by
from tablestore.costs import chosen
from tablestore.ordered import stretch
from tablestore.tables import numbers_of
from tablestore.values import order_key


def tuples_of(plan, tree, state):
    return doings(plan, tree, state)[-1][1]


def doings(plan, tree, state):
    done = []
    given = []
    for inner in plans_within(plan):
        beneath = doings(inner, tree, state)
        given.append(beneath[-1][1])
        done.extend(beneath)
    done.append((plan, given_by(plan, given, tree, state)))
    return done


def plans_within(plan):
    if plan[0] == "walk" or plan[0] == "seek":
        return []
    if plan[0] == "pair" or plan[0] == "merge":
        return [plan[1], plan[2]]
    return [plan[1]]


# A new list of what a plan gives, by the lists that those within it have given.
def given_by(plan, given, tree, state):
    word = plan[0]
    if word == "walk":
        return [alone(tree, plan[1], number) for number in numbers_of(table_of(tree, state, plan[1]))]
    if word == "seek":
        entries = stretch(index_at(tree, state, plan[1], plan[2]), plan[3], plan[4])
        return [alone(tree, plan[1], entry[1]) for entry in entries]
    if word == "pair":
        return paired(given[0], given[1])
    if word == "match":
        return matched(given[0], plan, tree, state)
    if word == "merge":
        return merged(given[0], given[1], plan, tree, state)
    if word == "sieve":
        return [numbers for numbers in given[0] if holds(tree, state, numbers, plan[2])]
    return in_order(given[0], plan[2], tree, state)


# The tuple in which source k alone is joined.
def alone(tree, k, number):
    return tuple([number if place == k else 0 for place in range(len(tree[1]))])


# Of two tuples that join unlike sources: what one doesn't join is 0 there.
def put_together(one, other):
    return tuple([max(pair) for pair in zip(one, other)])


def index_at(tree, state, k, place):
    table = table_of(tree, state, k)
    return table.indexes[table.shape[1][place][0]]


def paired(ones, others):
    found = []
    for one in ones:
        found.extend([put_together(one, other) for other in others])
    return found


def matched(ones, plan, tree, state):
    k = plan[2]
    index = index_at(tree, state, k, plan[3])
    found = []
    for one in ones:
        value = value_by(tree, state, one, ("cell", plan[4], plan[5]))
        entries = stretch(index, (value, True), (value, True))
        found.extend([put_together(one, alone(tree, k, entry[1])) for entry in entries])
    return found


# Sorting keeps the order of those that are alike: so within one value a's order and b's stay.
def merged(ones, others, plan, tree, state):
    mine = ("cell", plan[3], plan[4])
    partners = {}
    for other in others:
        value = value_by(tree, state, other, ("cell", plan[5], plan[6]))
        partners.setdefault(value, []).append(other)
    found = []
    for one in by_cell(ones, mine, tree, state):
        same = partners.get(value_by(tree, state, one, mine), [])
        found.extend([put_together(one, other) for other in same])
    return found


def by_cell(tuples, cell, tree, state):
    return sorted(tuples, key=lambda numbers: order_key(value_by(tree, state, numbers, cell)))


def by_cell_down(tuples, cell, tree, state):
    return sorted(tuples, key=lambda numbers: order_key(value_by(tree, state, numbers, cell)), reverse=True)


# From the last order to the first one: those that are alike by one stay as the ones behind it put them.
def in_order(tuples, orders, tree, state):
    ordered = sorted(tuples)
    for order in reversed(orders):
        if order[1]:
            ordered = by_cell_down(ordered, order[0], tree, state)
        else:
            ordered = by_cell(ordered, order[0], tree, state)
    return ordered


def answer_by(plan, tree, state):
    tuples = tuples_of(plan, tree, state)
    if tree[5] is not None:
        tuples = tuples[:tree[5]]
    return [values_shown(numbers, tree, state) for numbers in tuples]


def values_shown(numbers, tree, state):
    return tuple([value_by(tree, state, numbers, cell) for cell in tree[4]])


def answer(tree, state):
    return answer_by(chosen(tree, state), tree, state)
