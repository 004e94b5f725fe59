"""tablestore.conditions, by the points [7.1], [7.2] and [7.3]."""

import copy
import itertools
import random
import unittest

from tablestore.conditions import holds, parts_of, speaks_of, value_by
from tablestore.states import all_changed
from things import plain_state, rank

ONE = ("one", (("a", "number"), ("b", "text"), ("c", "number")))
TWO = ("two", (("x", "text"), ("y", "number")))

STATE = all_changed({}, [
    ("table", ONE), ("table", TWO), ("put", "one", 1, (5, "t", None)), ("put", "one", 7, (None, "", -5)),
    ("put", "one", 10 ** 9, (10 ** 18 - 1, "~", 5)), ("put", "two", 1, ("t", 5)), ("put", "two", 2, (None, None)),
    ("index", "one", "a"), ("index", "two", "x"),
])

TREE = ("ask", (("one", "p"), ("two", "two"), ("one", "q")), None, (), (("cell", 0, 0),), None)

VALUES = [None, -10 ** 18 + 1, -1, 0, 1, 9, 10, "", " ", "0", "1", "10", "9", "A", "a", "aa", '"', "~"]
SIGNS = ["=", "<>", "<", "<=", ">", ">="]


def plain_test(sign, one, other):
    one, other = rank(one), rank(other)
    return {"=": one == other, "<>": one != other, "<": one < other, "<=": one <= other,
            ">": one > other, ">=": one >= other}[sign]


def truth(told):
    """A test that holds or doesn't."""
    return ("test", "=", ("value", 1), ("value", 1 if told else 2))


class ValueBy(unittest.TestCase):
    def test_cells_of_each_source(self):
        for numbers in itertools.product((1, 7, 10 ** 9), (1, 2), (1, 7, 10 ** 9)):
            for k, name in enumerate(("one", "two", "one")):
                row = STATE[name].rows[numbers[k]]
                for place, value in enumerate(row):
                    told = value_by(TREE, STATE, numbers, ("cell", k, place))
                    self.assertEqual(told, value)

    def test_sources_that_are_not_joined(self):
        self.assertEqual(value_by(TREE, STATE, (0, 1, 0), ("cell", 1, 1)), 5)
        self.assertEqual(value_by(TREE, STATE, (0, 0, 7), ("cell", 2, 2)), -5)
        self.assertEqual(value_by(TREE, STATE, (0, 0, 0), ("value", "x")), "x")

    def test_values(self):
        for value in VALUES:
            self.assertEqual(value_by(TREE, STATE, (1, 1, 1), ("value", value)), value)


class Holds(unittest.TestCase):
    def holds(self, condition, numbers=(1, 1, 7)):
        told = holds(TREE, STATE, numbers, condition)
        self.assertIsInstance(told, bool)
        return told

    def test_each_sign_and_each_two_values(self):
        for sign, one, other in itertools.product(SIGNS, VALUES, VALUES):
            condition = ("test", sign, ("value", one), ("value", other))
            self.assertIs(self.holds(condition), plain_test(sign, one, other), condition)

    def test_cells_on_either_side(self):
        for numbers in itertools.product((1, 7, 10 ** 9), (1, 2), (1, 7, 10 ** 9)):
            rows = [STATE[source[0]].rows[number] for source, number in zip(TREE[1], numbers)]
            cells = [("cell", k, place) for k, row in enumerate(rows) for place in range(len(row))]
            for sign in SIGNS:
                for one, other in itertools.product(cells, repeat=2):
                    wanted = plain_test(sign, rows[one[1]][one[2]], rows[other[1]][other[2]])
                    self.assertIs(self.holds(("test", sign, one, other), numbers), wanted)
                for cell, value in itertools.product(cells, (None, 5, "t", "")):
                    mine = rows[cell[1]][cell[2]]
                    self.assertIs(self.holds(("test", sign, cell, ("value", value)), numbers),
                                  plain_test(sign, mine, value))
                    self.assertIs(self.holds(("test", sign, ("value", value), cell), numbers),
                                  plain_test(sign, value, mine))

    def test_none_is_the_same_as_none(self):
        self.assertIs(self.holds(("test", "=", ("cell", 0, 2), ("value", None))), True)
        self.assertIs(self.holds(("test", "<", ("cell", 0, 2), ("value", -10 ** 18 + 1))), True)
        self.assertIs(self.holds(("test", ">=", ("value", None), ("cell", 0, 2))), True)

    def test_and_or_not(self):
        for one, other in itertools.product((True, False), repeat=2):
            self.assertIs(self.holds(("and", truth(one), truth(other))), one and other)
            self.assertIs(self.holds(("or", truth(one), truth(other))), one or other)
            self.assertIs(self.holds(("not", truth(one))), not one)
            self.assertIs(self.holds(("not", ("not", truth(one)))), one)

    def test_no_condition_holds(self):
        self.assertIs(self.holds(None), True)

    def test_mixtures_by_chance(self):
        chance = random.Random(101)

        def mixture(depth):
            word = chance.choice(["and", "or", "not", "test"]) if depth else "test"
            if word == "test":
                told = chance.random() < 0.5
                return truth(told), told
            one, first = mixture(depth - 1)
            if word == "not":
                return ("not", one), not first
            other, second = mixture(depth - 1)
            return (word, one, other), (first and second) if word == "and" else (first or second)

        for _ in range(1000):
            condition, told = mixture(7)
            self.assertIs(self.holds(condition), told)

    def test_deep_conditions(self):
        condition = truth(True)
        for k in range(80):
            condition = ("not", condition)
            self.assertIs(self.holds(condition), k % 2 == 1)

    def test_what_is_handed_in_stays(self):
        before = copy.deepcopy(plain_state(STATE))
        condition = ("and", ("test", "=", ("cell", 0, 0), ("value", 5)), ("not",
                                                                          ("test", "<", ("cell", 1, 1),
                                                                           ("cell", 2, 2))))
        kept = copy.deepcopy((TREE, condition))
        self.holds(condition)
        self.assertEqual((TREE, condition), kept)
        self.assertEqual(plain_state(STATE), before)


class Parts(unittest.TestCase):
    def test_parts(self):
        p, q, r, s = [("test", "=", ("cell", k, k), ("value", k)) for k in range(4)]
        for condition, parts in (
            (None, []), (p, [p]), (("and", p, q), [p, q]), (("and", ("and", p, q), r), [p, q, r]),
            (("and", p, ("and", q, r)), [p, q, r]), (("and", ("and", p, q), ("and", r, s)), [p, q, r, s]),
            (("or", p, q), [("or", p, q)]), (("not", ("and", p, q)), [("not", ("and", p, q))]),
            (("or", ("and", p, q), r), [("or", ("and", p, q), r)]), (("and", ("or", ("and", p, q), r), s),
                                                                     [("or", ("and", p, q), r), s]),
            (("and", p, ("and", p, ("and", ("not", p), p))), [p, p, ("not", p), p]),
        ):
            self.assertEqual(parts_of(condition), parts)

    def test_lists_are_the_askers_own(self):
        p = ("test", "=", ("cell", 0, 0), ("cell", 1, 0))
        for condition in (None, p, ("and", p, p)):
            before = parts_of(condition)
            parts_of(condition).append("more")
            self.assertEqual(parts_of(condition), before)
        speaks_of(p).clear()
        self.assertEqual(speaks_of(p), [0, 1])

    def test_speaks_of(self):
        def test(one, other):
            sides = [("value", 1) if k is None else ("cell", k, 0) for k in (one, other)]
            return ("test", "<", sides[0], sides[1])

        for condition, sources in (
            (test(None, None), []), (test(0, None), [0]), (test(None, 2), [2]), (test(2, 0), [0, 2]), (test(1, 1), [1]),
            (("not", test(2, 1)), [1, 2]), (("or", test(2, None), test(0, 2)), [0, 2]),
            (("or", test(2, 1), ("not", test(0, 1))), [0, 1, 2]),
            (("or", test(None, None), test(None, None)), []),
        ):
            self.assertEqual(speaks_of(condition), sources)


if __name__ == "__main__":
    unittest.main()
