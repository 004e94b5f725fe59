"""tablestore.costs, by the points [7.9] and [7.10]."""

import copy
import random
import unittest

from tablestore.costs import chosen, cost, guess
from tablestore.plans import plans
from tablestore.states import all_changed
from things import Asker, asked, plain_state, rank

ONE = ("one", (("a", "number"), ("b", "text")))
TWO = ("two", (("x", "number"), ("y", "text")))
NIL = ("nil", (("z", "number"),))

ALWAYS = ("test", "=", ("value", 1), ("value", 1))


def made():
    """one: 10 rows with 4 unlike values of a, 10 of b; two: 7 rows with 3 unlike values of x, 1 of y; nil: no rows."""
    changes = [("table", ONE), ("table", TWO), ("table", NIL)]
    changes += [("put", "one", k + 1, ((None, 1, 2, 3)[k % 4], "abcdefghij"[k])) for k in range(10)]
    changes += [("put", "two", k + 1, (k % 3, None)) for k in range(7)]
    return all_changed({}, changes + [("index", "one", "a"), ("index", "two", "x"), ("index", "nil", "z")])


STATE = made()
TREE = asked("from one, two, nil show one.a", STATE)

WALK, OTHER, NONE = ("walk", 0), ("walk", 1), ("walk", 2)

# Plans with their guesses and costs, worked out by hand.
WORKED_OUT = [
    (WALK, 10, 10), (OTHER, 7, 7), (NONE, 0, 0),
    (("seek", 0, 0, (), ()), 10, 13), (("seek", 0, 0, (1, True), (1, True)), 3, 6),
    (("seek", 0, 0, (None, True), (None, True)), 3, 6),
    (("seek", 0, 0, (2, True), (3, True)), 4, 7), (("seek", 0, 0, (9, True), ()), 0, 3), (("seek", 2, 0, (), ()), 0, 3),
    (("seek", 1, 0, (), (1, False)), 3, 6), (("seek", 1, 0, (0, False), (2, True)), 4, 7),
    (("pair", WALK, OTHER), 70, 10 + 10 * 7), (("pair", OTHER, WALK), 70, 7 + 7 * 10),
    (("pair", WALK, NONE), 0, 10 + 10 * 0),
    (("pair", NONE, WALK), 0, 0), (("pair", WALK, ("seek", 1, 0, (9, True), ())), 0, 10 + 10 * 3),
    # Of 10 * 7 tuples by 3 unlike values of x: 23 and a third; by the 1 of y: 70.
    (("match", WALK, 1, 0, 0, 0), 24, 10 + 30 + 24), (("match", WALK, 1, 1, 0, 1), 70, 10 + 30 + 70),
    # Of 7 * 10 tuples by 4 unlike values of a, None among them: 17 and a half; by the 10 of b: 7.
    (("match", OTHER, 0, 0, 1, 0), 18, 7 + 21 + 18), (("match", OTHER, 0, 1, 1, 1), 7, 7 + 21 + 7),
    (("match", NONE, 0, 0, 2, 0), 0, 0), (("match", WALK, 2, 0, 0, 0), 0, 10 + 30 + 0),
    (("merge", WALK, OTHER, 0, 0, 1, 0), 24, 10 + 7 + 20 + 14 + 24), (("merge", OTHER, WALK, 1, 0, 0, 0), 18,
                                                                      7 + 10 + 14 + 20 + 18),
    (("merge", WALK, ("sieve", OTHER, ALWAYS), 0, 0, 1, 0), 14, 10 + 14 + 20 + 8 + 14),
    (("merge", ("seek", 0, 0, (1, True), (1, True)), OTHER, 0, 0, 1, 1), 21, 6 + 7 + 6 + 14 + 21),
    (("merge", WALK, NONE, 0, 0, 2, 0), 0, 10 + 0 + 20 + 0 + 0),
    (("sieve", WALK, ALWAYS), 5, 20), (("sieve", OTHER, ALWAYS), 4, 14), (("sieve", NONE, ALWAYS), 0, 0),
    (("sieve", ("sieve", OTHER, ALWAYS), ALWAYS), 2, 18), (("sieve", ("seek", 0, 0, (1, True), (1, True)), ALWAYS), 2,
                                                           9),
    (("sort", WALK, ()), 10, 30), (("sort", ("sieve", OTHER, ALWAYS), ((("cell", 1, 0), True),)), 4, 22),
    (("sort", NONE, ()), 0, 0),
    (("sort", ("sieve", ("match", ("sieve", WALK, ALWAYS), 1, 0, 0, 0), ALWAYS), ()), 6, (20 + 15 + 12) + 12 + 12),
    (("pair", ("pair", WALK, OTHER), NONE), 0, 80), (("pair", ("pair", NONE, OTHER), WALK), 0, 0),
    (("pair", ("sieve", ("pair", WALK, OTHER), ALWAYS), ("seek", 2, 0, (), ())), 0, (80 + 70) + 35 * 3),
]


def plain_both(plan, tree, state):
    """Guess and cost by [7.9] and [7.10], another time."""
    def rows(k):
        return list(state[tree[1][k][0]].rows.values())

    def unlike(k, place):
        return max(len({repr(row[place]) for row in rows(k)}), 1)

    def up(many, parts):
        return -(-many // parts)

    word = plan[0]
    if word == "walk":
        return len(rows(plan[1])), len(rows(plan[1]))
    if word == "seek":
        within = seek_count(plan, tree, state)
        return within, within + 3
    many, price = plain_both(plan[1], tree, state)
    if word == "pair":
        others, other_price = plain_both(plan[2], tree, state)
        return many * others, price + many * other_price
    if word == "match":
        own = up(many * len(rows(plan[2])), unlike(plan[2], plan[3]))
        return own, price + 3 * many + own
    if word == "merge":
        others, other_price = plain_both(plan[2], tree, state)
        own = up(many * others, unlike(plan[5], plan[6]))
        return own, price + other_price + 2 * many + 2 * others + own
    return (up(many, 2), price + many) if word == "sieve" else (many, price + 2 * many)


def seek_count(plan, tree, state):
    found = 0
    for row in state[tree[1][plan[1]][0]].rows.values():
        value = rank(row[plan[2]])
        low, high = [bound and rank(bound[0]) for bound in plan[3:]]
        above = not low or value > low or value == low and plan[3][1]
        below = not high or value < high or value == high and plan[4][1]
        found += above and below
    return found


class GuessAndCost(unittest.TestCase):
    def test_worked_out(self):
        for plan, guessed, price in WORKED_OUT:
            self.assertEqual(guess(plan, TREE, STATE), guessed, plan)
            self.assertEqual(cost(plan, TREE, STATE), price, plan)
            self.assertIs(type(guess(plan, TREE, STATE)), int)
            self.assertIs(type(cost(plan, TREE, STATE)), int)

    def test_every_plan_of_questions_by_chance(self):
        chance = random.Random(121)
        asker = Asker(chance, [ONE, TWO, NIL])
        for _ in range(120):
            tree = asked(asker.question(), STATE)
            every = plans(tree, STATE)
            for plan in chance.sample(every, min(len(every), 40)):
                self.assertEqual((guess(plan, tree, STATE), cost(plan, tree, STATE)), plain_both(plan, tree, STATE))

    def test_a_table_without_rows(self):
        tree = asked("from nil p, nil q where p.z = q.z and p.z > 1 show p.z", STATE)
        for plan in plans(tree, STATE):
            self.assertEqual(guess(plan, tree, STATE), 0)


class Chosen(unittest.TestCase):
    def test_the_first_of_the_least(self):
        chance = random.Random(122)
        asker = Asker(chance, [ONE, TWO, NIL])
        ties = 0
        for _ in range(150):
            tree = asked(asker.question(), STATE)
            every = plans(tree, STATE)
            prices = [plain_both(plan, tree, STATE)[1] for plan in every]
            ties += prices.count(min(prices)) > 1
            self.assertEqual(chosen(tree, STATE), every[prices.index(min(prices))])
        self.assertGreater(ties, 5)

    def test_two_plans_of_one_cost(self):
        tree = asked("from one p, one q show p.a", STATE)
        self.assertEqual(cost(plans(tree, STATE)[0], tree, STATE), cost(plans(tree, STATE)[1], tree, STATE))
        self.assertEqual(chosen(tree, STATE), ("sort", ("pair", ("walk", 0), ("walk", 1)), ()))
        # A walk over 10 rows, sieved, and a seek of 7 with 3 more: 10 + 10 and 7 + 3 + 7 part; the seek is chosen.
        tree = asked("from one where one.a > none show one.a", STATE)
        self.assertEqual(chosen(tree, STATE)[1][1], ("seek", 0, 0, (None, False), ()))

    def test_a_seek_that_finds_nearly_all_is_not_worth_it(self):
        tree = asked("from two where two.x >= 0 show two.x", STATE)
        self.assertEqual(chosen(tree, STATE)[1][1], ("walk", 0))

    def test_what_is_handed_in_stays(self):
        tree = asked("from one p, two q where p.a = q.x and p.a > 1 order by p.a show p.a", STATE)
        kept = copy.deepcopy((tree, plain_state(STATE)))
        plan = chosen(tree, STATE)
        guess(plan, tree, STATE)
        cost(plan, tree, STATE)
        self.assertEqual((tree, plain_state(STATE)), kept)
        self.assertEqual(chosen(tree, STATE), plan)

    def test_the_state_of_the_call_counts(self):
        tree = asked("from one where one.a = 1 show one.a", STATE)
        self.assertEqual(chosen(tree, STATE)[1][1][0], "seek")
        later = all_changed(STATE, [("put", "one", k, (1, "x")) for k in range(1, 11)])
        self.assertEqual(chosen(tree, later)[1][1], ("walk", 0))
        self.assertEqual(chosen(tree, STATE)[1][1][0], "seek")


if __name__ == "__main__":
    unittest.main()
