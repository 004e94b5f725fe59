"""Guesses at how much plans give, what they cost, and the plan that is chosen."""

from tablestore.conditions import table_of
from tablestore.ordered import stretch
from tablestore.plans import plans


# What the guesses of many plans of one question need again and again is counted once.
class Counts:
    def __init__(self, tree, state):
        self.asked = tree
        self.tables = state
        self.entries = {}
        self.unlike = {}

    def rows_in(self, k):
        return len(table_of(self.asked, self.tables, k).rows)

    def entries_in(self, seek):
        if seek not in self.entries:
            table = table_of(self.asked, self.tables, seek[1])
            index = table.indexes[table.shape[1][seek[2]][0]]
            self.entries[seek] = len(stretch(index, seek[3], seek[4]))
        return self.entries[seek]

    def unlike_in(self, k, place):
        if (k, place) not in self.unlike:
            rows = table_of(self.asked, self.tables, k).rows
            self.unlike[(k, place)] = len(set([row[place] for row in rows.values()]))
        return self.unlike[(k, place)]


def guess(plan, tree, state):
    return guess_and_cost(plan, Counts(tree, state))[0]


def cost(plan, tree, state):
    return guess_and_cost(plan, Counts(tree, state))[1]


def guess_and_cost(plan, counts):
    word = plan[0]
    if word == "walk":
        many = counts.rows_in(plan[1])
        return (many, many)
    if word == "seek":
        many = counts.entries_in(plan)
        return (many, many + 3)
    inner = guess_and_cost(plan[1], counts)
    if word == "sieve":
        return (rounded_up(inner[0], 2), inner[1] + inner[0])
    if word == "sort":
        return (inner[0], inner[1] + 2 * inner[0])
    return joined_guess_and_cost(plan, inner, counts)


# Of a pair, a match or a merge, by what is told of the plan that it goes on from.
def joined_guess_and_cost(plan, inner, counts):
    if plan[0] == "match":
        many = rounded_up(inner[0] * counts.rows_in(plan[2]), counts.unlike_in(plan[2], plan[3]))
        return (many, inner[1] + 3 * inner[0] + many)
    other = guess_and_cost(plan[2], counts)
    if plan[0] == "pair":
        return (inner[0] * other[0], inner[1] + inner[0] * other[1])
    many = rounded_up(inner[0] * other[0], counts.unlike_in(plan[5], plan[6]))
    return (many, inner[1] + other[1] + 2 * (inner[0] + other[0]) + many)


# A column without any value has no unlike ones to divide by.
def rounded_up(many, parts):
    divisor = max(parts, 1)
    return (many + divisor - 1) // divisor


def chosen(tree, state):
    counts = Counts(tree, state)
    best = None
    least = 0
    for plan in plans(tree, state):
        told = guess_and_cost(plan, counts)[1]
        if best is None or told < least:
            best = plan
            least = told
    return best
