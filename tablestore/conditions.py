"""Conditions of bound trees: their parts, the sources of which they speak, and whether they hold by a tuple."""

from tablestore.showing import cells_of
from tablestore.values import compare

# The signs by which a test holds where its first value is ahead of, the same as, or behind its second one.
AHEAD_SIGNS = ("<", "<=", "<>")
SAME_SIGNS = ("=", "<=", ">=")
BEHIND_SIGNS = (">", ">=", "<>")


def parts_of(condition):
    if condition is None:
        return []
    if condition[0] == "and":
        return parts_of(condition[1]) + parts_of(condition[2])
    return [condition]


# The other way about; of one part at least.
def together(parts):
    condition = parts[0]
    for part in parts[1:]:
        condition = ("and", condition, part)
    return condition


def speaks_of(condition):
    return sorted(set([cell[1] for cell in cells_of(condition)]))


def table_of(tree, state, k):
    return state[tree[1][k][0]]


def value_by(tree, state, numbers, side):
    if side[0] == "value":
        return side[1]
    return table_of(tree, state, side[1]).rows[numbers[side[1]]][side[2]]


def holds(tree, state, numbers, condition):
    if condition is None:
        return True
    word = condition[0]
    if word == "and":
        return holds(tree, state, numbers, condition[1]) and holds(tree, state, numbers, condition[2])
    if word == "or":
        return holds(tree, state, numbers, condition[1]) or holds(tree, state, numbers, condition[2])
    if word == "not":
        return not holds(tree, state, numbers, condition[1])
    one = value_by(tree, state, numbers, condition[2])
    other = value_by(tree, state, numbers, condition[3])
    return sign_holds(condition[1], compare(one, other))


def sign_holds(sign, told):
    if told == 0:
        return sign in SAME_SIGNS
    return sign in AHEAD_SIGNS if told < 0 else sign in BEHIND_SIGNS
