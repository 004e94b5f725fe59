"""tablestore.plans, by the points [7.6], [7.7] and [7.8]."""

import copy
import itertools
import random
import unittest

from tablestore.plans import bounds_of, plans, ways
from tablestore.states import all_changed
from things import asked, plain_state, rank

ONE = ("one", (("a", "number"), ("b", "text"), ("c", "number")))
TWO = ("two", (("x", "text"), ("y", "number")))
WIDE = ("wide", tuple([(letter, "number") for letter in "abcdefgh"]))


def state_with(*indexes):
    """A state of three tables, with indexes told as table.column."""
    changes = [("table", ONE), ("table", TWO), ("table", WIDE), ("put", "one", 1, (5, "t", None)),
               ("put", "two", 2, ("t", 5))]
    return all_changed({}, changes + [("index", *index.split(".")) for index in indexes])


def test(sign, one, other):
    return ("test", sign, one, other)


def cell(k, place):
    return ("cell", k, place)


def value(thing):
    return ("value", thing)


# An account of [7.6] to [7.8] other than the program's.

def plain_parts(condition):
    if condition is None:
        return []
    return plain_parts(condition[1]) + plain_parts(condition[2]) if condition[0] == "and" else [condition]


def sources_in(thing):
    """The sources of all cells within a tree, as a set."""
    if not isinstance(thing, tuple):
        return set()
    if len(thing) == 3 and thing[0] == "cell":
        return {thing[1]}
    return set().union(*[sources_in(inner) for inner in thing])


def plain_bounds(tree, k, place):
    lows, highs = [], []
    for part in plain_parts(tree[2]):
        if part[0] != "test":
            continue
        for mine, other, sides in ((part[2], part[3], {"<": "h", ">": "l", "=": "lh"}),
                                   (part[3], part[2], {"<": "l", ">": "h", "=": "lh"})):
            if mine == ("cell", k, place) and other[0] == "value" and part[1] != "<>":
                bound = (other[1], part[1].endswith("="))
                lows += [bound] * ("l" in sides[part[1][0]])
                highs += [bound] * ("h" in sides[part[1][0]])
    low = max(lows, key=lambda bound: (rank(bound[0]), not bound[1]), default=())
    high = min(highs, key=lambda bound: (rank(bound[0]), bound[1]), default=())
    return (low, high)


def plain_sieve(plan, parts):
    if not parts:
        return plan
    condition = parts[0]
    for part in parts[1:]:
        condition = ("and", condition, part)
    return ("sieve", plan, condition)


def plain_ways(tree, state, k):
    table = state[tree[1][k][0]]
    found = [("walk", k)]
    for place, (column, _) in enumerate(table.shape[1]):
        low, high = plain_bounds(tree, k, place)
        if column in table.indexes and (low or high):
            found.append(("seek", k, place, low, high))
    return found


def plain_joints(tree, state, k, joined, plan):
    table = state[tree[1][k][0]]
    parts = plain_parts(tree[2])
    alone = [part for part in parts if sources_in(part) == {k}]
    across = [part for part in parts if sources_in(part) > {k} and sources_in(part) <= joined | {k}]
    for way in plain_ways(tree, state, k):
        yield plain_sieve(("pair", plan, plain_sieve(way, alone)), across)
    for word in ("match", "merge"):
        for part in parts:
            if part not in across or part[:2] != ("test", "="):
                continue
            mine, other = (part[2], part[3]) if part[2][1] == k else (part[3], part[2])
            if word == "merge":
                yield plain_sieve(("merge", plan, plain_sieve(("walk", k), alone), other[1], other[2], k, mine[2]),
                                  across)
            elif table.shape[1][mine[2]][0] in table.indexes:
                both = [part for part in parts if part in alone or part in across]
                yield plain_sieve(("match", plan, k, mine[2], other[1], other[2]), both)


def plain_plans(tree, state):
    found = []
    for order in itertools.permutations(range(len(tree[1]))):
        parts = [part for part in plain_parts(tree[2]) if sources_in(part) <= {order[0]}]
        made = [plain_sieve(way, parts) for way in plain_ways(tree, state, order[0])]
        for place in range(1, len(order)):
            made = [joint for plan in made for joint in plain_joints(tree, state, order[place], set(order[:place]),
                                                                     plan)]
        found.extend([("sort", plan, tree[3]) for plan in made])
    return found


class Bounds(unittest.TestCase):
    def bounds(self, condition, column="a.a"):
        state = state_with()
        tree = asked(f"from one a, two b where {condition} show a.a", state)
        alias, name = column.split(".")
        k = "ab".index(alias)
        place = [pair[0] for pair in (ONE, TWO)[k][1]].index(name)
        told = bounds_of(tree, k, place)
        self.assertIs(type(told), tuple)
        return told

    def test_one_test_of_each_sign_on_either_side(self):
        for text, low, high in (
            ("a.a = 5", (5, True), (5, True)), ("a.a < 5", (), (5, False)), ("a.a <= 5", (), (5, True)),
            ("a.a > 5", (5, False), ()),
            ("a.a >= 5", (5, True), ()), ("a.a <> 5", (), ()), ("5 = a.a", (5, True), (5, True)),
            ("5 < a.a", (5, False), ()),
            ("5 <= a.a", (5, True), ()), ("5 > a.a", (), (5, False)), ("5 >= a.a", (), (5, True)), ("5 <> a.a", (), ()),
            ("a.a = none", (None, True), (None, True)), ('a.a < "t"', (), ("t", False)),
            ("none < a.a", (None, False), ()),
        ):
            self.assertEqual(repr(self.bounds(text)), repr((low, high)), text)

    def test_the_narrowest_counts(self):
        for text, low, high in (
            ("a.a > 5 and a.a > 7 and a.a > 6", (7, False), ()), ("a.a < 5 and 3 > a.a and a.a < 4", (), (3, False)),
            ("a.a >= 5 and a.a > 5", (5, False), ()), ("a.a > 5 and a.a >= 5", (5, False), ()),
            ("a.a <= 5 and a.a < 5", (), (5, False)),
            ("a.a < 5 and a.a <= 5", (), (5, False)), ("a.a >= 6 and a.a > 5", (6, True), ()),
            ("a.a > 5 and a.a >= 6", (6, True), ()),
            ("a.a <= 4 and a.a < 5", (), (4, True)), ("a.a = 5 and a.a > 5", (5, False), (5, True)),
            ("a.a = 5 and a.a < 9", (5, True), (5, True)),
            ("a.a = 5 and a.a = 7", (7, True), (5, True)), ("a.a > 9 and a.a < 3", (9, False), (3, False)),
            ('a.a > 5 and a.a > "" and a.a > none', ("", False), ()), ('a.a < 5 and a.a < "" and a.a < none', (),
                                                                       (None, False)),
            ("a.a >= 5 and 5 <= a.a", (5, True), ()), ("10 > a.a and 9 >= a.a and 1 < a.a", (1, False), (9, True)),
            ("a.a > 9 and a.a > 10", (10, False), ()), ('a.a > "9" and a.a > "10"', ("9", False), ()),
        ):
            self.assertEqual(repr(self.bounds(text)), repr((low, high)), text)

    def test_parts_alone_tell_bounds(self):
        for text in ("a.a = 5 or a.a = 6", "not a.a = 5", "not (a.a > 5 and a.a < 7)", "(a.a > 5 or 1 = 1)",
                     "a.a = a.c", "a.a = b.y",
                     "b.y = 5", "a.c = 5", "5 = 5", "a.b > none", "not not a.a = 5", "a.c > a.a"):
            self.assertEqual(self.bounds(text), ((), ()), text)
        self.assertEqual(self.bounds("(a.a > 5 and (a.a < 7 and (1 = 1 and a.a >= 6)))"), ((6, True), (7, False)))
        self.assertEqual(self.bounds("(a.a > 5 or a.a < 3) and a.a < 100"), ((), (100, False)))

    def test_cells_of_other_places_and_sources(self):
        text = 'a.a > 1 and a.c < 2 and b.y = 3 and "q" >= a.b and b.x > "w"'
        for column, told in (("a.a", ((1, False), ())), ("a.c", ((), (2, False))), ("b.y", ((3, True), (3, True))),
                             ("a.b", ((), ("q", True))), ("b.x", (("w", False), ()))):
            self.assertEqual(self.bounds(text, column), told)

    def test_no_condition(self):
        self.assertEqual(bounds_of(asked("from one show one.a", state_with()), 0, 0), ((), ()))

    def test_by_chance(self):
        chance = random.Random(111)
        state = state_with()
        for _ in range(600):
            tests = []
            for _ in range(chance.randint(1, 7)):
                sides = ["a.a", chance.choice(["1", "2", "3", "none", '"t"'])]
                chance.shuffle(sides)
                tests.append(f"{sides[0]} {chance.choice(['=', '<>', '<', '<=', '>', '>='])} {sides[1]}")
            tree = asked("from one a where " + " and ".join(tests) + " show a.a", state)
            self.assertEqual(repr(bounds_of(tree, 0, 0)), repr(plain_bounds(tree, 0, 0)), tests)


class Ways(unittest.TestCase):
    def test_written_out(self):
        text = 'from one a, two b, one d where a.a > 1 and a.c = 2 and b.x < "t" and d.b <> "q" and d.a = b.y show a.a'
        for indexes, told in (
            ([], [[("walk", 0)], [("walk", 1)], [("walk", 2)]]),
            (["one.a"], [[("walk", 0), ("seek", 0, 0, (1, False), ())], [("walk", 1)], [("walk", 2)]]),
            (["one.c", "one.b", "one.a", "two.x", "two.y"],
             [[("walk", 0), ("seek", 0, 0, (1, False), ()), ("seek", 0, 2, (2, True), (2, True))],
              [("walk", 1), ("seek", 1, 0, (), ("t", False))], [("walk", 2)]]),
        ):
            state = state_with(*indexes)
            tree = asked(text, state)
            for k in range(3):
                self.assertEqual(ways(tree, state, k), told[k])

    def test_in_the_order_of_the_shape(self):
        state = state_with(*[f"wide.{letter}" for letter in "hcaf"])
        tree = asked("from wide w where " + " and ".join([f"w.{letter} = 1" for letter in "hgfedcba"]) + " show w.a",
                     state)
        self.assertEqual([way[2] for way in ways(tree, state, 0)[1:]], [0, 2, 5, 7])

    def test_no_condition(self):
        state = state_with("one.a", "one.b", "one.c")
        self.assertEqual(ways(asked("from one show one.a", state), state, 0), [("walk", 0)])


class Plans(unittest.TestCase):
    def check(self, text, state, wanted):
        tree = asked(text, state)
        self.assertEqual(plans(tree, state), wanted)
        self.assertEqual(plain_plans(tree, state), wanted)

    def test_one_source(self):
        self.check("from one show one.a", state_with("one.a"), [("sort", ("walk", 0), ())])
        above = test(">", cell(0, 0), value(1))
        same = test("=", value("t"), cell(0, 1))
        always = test("<", value(1), value(2))
        orders = ((cell(0, 2), True),)
        sieve = ("and", ("and", above, always), same)
        self.check('from one o where o.a > 1 and 1 < 2 and "t" = o.b order by o.c down show o.a take 5',
                   state_with("one.a", "one.b"), [
            ("sort", ("sieve", ("walk", 0), sieve), orders),
            ("sort", ("sieve", ("seek", 0, 0, (1, False), ()), sieve), orders),
            ("sort", ("sieve", ("seek", 0, 1, ("t", True), ("t", True)), sieve), orders),
        ])
        either = ("or", above, same)
        self.check('from one o where o.a > 1 or "t" = o.b show o.a', state_with("one.a", "one.b"), [
            ("sort", ("sieve", ("walk", 0), either), ())])
        inner = test("=", cell(0, 0), cell(0, 2))
        self.check("from one o where o.a = o.c show o.a", state_with("one.a", "one.c"),
                   [("sort", ("sieve", ("walk", 0), inner), ())])
        self.check("from one o where 1 < 2 show o.a", state_with("one.a"), [("sort", ("sieve", ("walk", 0), always),
                                                                             ())])

    def test_two_sources_with_nothing_between(self):
        self.check("from one, two show one.a", state_with("one.a", "two.x"), [
            ("sort", ("pair", ("walk", 0), ("walk", 1)), ()), ("sort", ("pair", ("walk", 1), ("walk", 0)), ())])
        always = test("<", value(1), value(2))
        small = test("<", cell(1, 1), value(9))
        self.check("from one, two where two.y < 9 and 1 < 2 order by two.x show one.a", state_with("two.y"), [
            ("sort", plan, ((cell(1, 0), False),)) for plan in (
                ("pair", ("sieve", ("walk", 0), always), ("sieve", ("walk", 1), small)),
                ("pair", ("sieve", ("walk", 0), always), ("sieve", ("seek", 1, 1, (), (9, False)), small)),
                ("pair", ("sieve", ("walk", 1), ("and", small, always)), ("walk", 0)),
                ("pair", ("sieve", ("seek", 1, 1, (), (9, False)), ("and", small, always)), ("walk", 0)),
            )])

    def test_two_sources_by_matches_and_merges(self):
        same = test("=", cell(0, 0), cell(1, 1))
        small = test("<", cell(1, 1), value(9))
        unlike = test("<>", cell(1, 0), cell(0, 1))
        across = ("and", same, unlike)
        every = ("and", ("and", same, small), unlike)
        low = ("sieve", ("walk", 1), small)
        self.check("from one, two where one.a = two.y and two.y < 9 and two.x <> one.b show one.a",
                   state_with("two.y"), [
            ("sort", plan, ()) for plan in (
                ("sieve", ("pair", ("walk", 0), low), across),
                ("sieve", ("pair", ("walk", 0), ("sieve", ("seek", 1, 1, (), (9, False)), small)), across),
                ("sieve", ("match", ("walk", 0), 1, 1, 0, 0), every),
                ("sieve", ("merge", ("walk", 0), low, 0, 0, 1, 1), across),
                ("sieve", ("pair", low, ("walk", 0)), across),
                ("sieve", ("merge", low, ("walk", 0), 1, 1, 0, 0), across),
                ("sieve", ("pair", ("sieve", ("seek", 1, 1, (), (9, False)), small), ("walk", 0)), across),
                ("sieve", ("merge", ("sieve", ("seek", 1, 1, (), (9, False)), small), ("walk", 0), 1, 1, 0, 0), across),
            )])

    def test_one_table_twice(self):
        one = test("=", cell(1, 1), cell(0, 1))
        two = test("=", cell(0, 0), cell(1, 2))
        both = ("and", one, two)
        self.check("from one p, one q where q.b = p.b and p.a = q.c show p.a", state_with("one.b"), [
            ("sort", ("sieve", plan, both), ()) for plan in (
                ("pair", ("walk", 0), ("walk", 1)),
                ("match", ("walk", 0), 1, 1, 0, 1),
                ("merge", ("walk", 0), ("walk", 1), 0, 1, 1, 1),
                ("merge", ("walk", 0), ("walk", 1), 0, 0, 1, 2),
                ("pair", ("walk", 1), ("walk", 0)),
                ("match", ("walk", 1), 0, 1, 1, 1),
                ("merge", ("walk", 1), ("walk", 0), 1, 1, 0, 1),
                ("merge", ("walk", 1), ("walk", 0), 1, 2, 0, 0),
            )])

    def test_tests_by_other_signs_and_within_others_join_nothing(self):
        state = state_with("one.a", "two.y")
        for condition in ("one.a < two.y", "one.a = two.y or 1 = 2", "not one.a = two.y", "one.a <> two.y"):
            tree = asked(f"from one, two where {condition} show one.a", state)
            self.assertEqual(plans(tree, state), [
                ("sort", ("sieve", ("pair", ("walk", 0), ("walk", 1)), tree[2]), ()),
                ("sort", ("sieve", ("pair", ("walk", 1), ("walk", 0)), tree[2]), ())])

    def test_three_sources(self):
        self.check("from one a, two b, one c show a.a", state_with(), [
            ("sort", ("pair", ("pair", ("walk", i), ("walk", j)), ("walk", k)), ())
            for i, j, k in ((0, 1, 2), (0, 2, 1), (1, 0, 2), (1, 2, 0), (2, 0, 1), (2, 1, 0))])
        near = test("=", cell(0, 0), cell(1, 1))
        far = test("=", cell(2, 2), cell(1, 1))
        all_three = ("or", test("<", cell(0, 0), cell(2, 0)), test("=", cell(1, 0), value("t")))
        state = state_with("one.c")
        text = 'from one a, two b, one c where a.a = b.y and c.c = b.y and (a.a < c.a or b.x = "t") show a.a'
        last = ("and", far, all_three)
        first = ("and", near, all_three)
        both = ("and", ("and", near, far), all_three)
        wanted = []
        for begun in (("sieve", ("pair", ("walk", 0), ("walk", 1)), near), ("sieve",
                                                                            ("merge", ("walk", 0), ("walk", 1), 0, 0,
                                                                             1, 1), near)):
            wanted += [("sieve", ("pair", begun, ("walk", 2)), last), ("sieve", ("match", begun, 2, 2, 1, 1), last),
                       ("sieve", ("merge", begun, ("walk", 2), 1, 1, 2, 2), last)]
        begun = ("pair", ("walk", 0), ("walk", 2))
        wanted += [("sieve", ("pair", begun, ("walk", 1)), both), ("sieve", ("merge", begun, ("walk", 1), 0, 0, 1, 1),
                                                                   both),
                   ("sieve", ("merge", begun, ("walk", 1), 2, 2, 1, 1), both)]
        for begun in (("sieve", ("pair", ("walk", 1), ("walk", 0)), near), ("sieve",
                                                                            ("merge", ("walk", 1), ("walk", 0), 1, 1,
                                                                             0, 0), near)):
            wanted += [("sieve", ("pair", begun, ("walk", 2)), last), ("sieve", ("match", begun, 2, 2, 1, 1), last),
                       ("sieve", ("merge", begun, ("walk", 2), 1, 1, 2, 2), last)]
        for begun in (("sieve", ("pair", ("walk", 1), ("walk", 2)), far), ("sieve", ("match", ("walk", 1), 2, 2, 1, 1),
                                                                           far),
                      ("sieve", ("merge", ("walk", 1), ("walk", 2), 1, 1, 2, 2), far)):
            wanted += [("sieve", ("pair", begun, ("walk", 0)), first), ("sieve",
                                                                        ("merge", begun, ("walk", 0), 1, 1, 0, 0),
                                                                        first)]
        begun = ("pair", ("walk", 2), ("walk", 0))
        wanted += [("sieve", ("pair", begun, ("walk", 1)), both), ("sieve", ("merge", begun, ("walk", 1), 0, 0, 1, 1),
                                                                   both),
                   ("sieve", ("merge", begun, ("walk", 1), 2, 2, 1, 1), both)]
        for begun in (("sieve", ("pair", ("walk", 2), ("walk", 1)), far), ("sieve",
                                                                           ("merge", ("walk", 2), ("walk", 1), 2, 2, 1,
                                                                            1), far)):
            wanted += [("sieve", ("pair", begun, ("walk", 0)), first), ("sieve",
                                                                        ("merge", begun, ("walk", 0), 1, 1, 0, 0),
                                                                        first)]
        self.check(text, state, [("sort", plan, ()) for plan in wanted])

    def test_a_part_that_comes_twice(self):
        same = test("=", cell(0, 0), cell(1, 1))
        both = ("and", same, same)
        self.check("from one, two where one.a = two.y and one.a = two.y show one.a", state_with("two.y"), [
            ("sort", ("sieve", plan, both), ()) for plan in (
                ("pair", ("walk", 0), ("walk", 1)), ("match", ("walk", 0), 1, 1, 0, 0),
                ("match", ("walk", 0), 1, 1, 0, 0),
                ("merge", ("walk", 0), ("walk", 1), 0, 0, 1, 1), ("merge", ("walk", 0), ("walk", 1), 0, 0, 1, 1),
                ("pair", ("walk", 1), ("walk", 0)), ("merge", ("walk", 1), ("walk", 0), 1, 1, 0, 0),
                ("merge", ("walk", 1), ("walk", 0), 1, 1, 0, 0))])

    def test_by_chance(self):
        chance = random.Random(112)
        columns = {"one": "abc", "two": "xy"}
        for _ in range(150):
            tables = [chance.choice(["one", "two"]) for _ in range(chance.randint(1, 3))]
            aliases = "pqr"[:len(tables)]
            state = state_with(*[index for index in ("one.a", "one.b", "one.c", "two.x",
                                                     "two.y") if chance.random() < 0.5])

            def side():
                if chance.random() < 0.35:
                    return chance.choice(["1", "none", '"t"', "7"])
                k = chance.randrange(len(tables))
                return f"{aliases[k]}.{chance.choice(columns[tables[k]])}"

            def condition(depth):
                word = chance.choice(["and", "and", "and", "or", "not", "test"]) if depth else "test"
                if word == "test":
                    return f"{side()} {chance.choice(['=', '=', '=', '<', '>=', '<>'])} {side()}"
                if word == "not":
                    return f"not ({condition(depth - 1)})"
                return f"({condition(depth - 1)} {word} {condition(depth - 1)})"

            sources = ", ".join([f"{table} {alias}" for table, alias in zip(tables, aliases)])
            where = f" where {condition(2)}" if chance.random() < 0.9 else ""
            tree = asked(f"from {sources}{where} show p.{chance.choice(columns[tables[0]])}", state)
            self.assertEqual(plans(tree, state), plain_plans(tree, state))
            for k in range(len(tables)):
                self.assertEqual(ways(tree, state, k), plain_ways(tree, state, k))

    def test_lists_are_the_askers_own_and_nothing_handed_in_changes(self):
        state = state_with("one.a", "two.y")
        tree = asked("from one, two where one.a = two.y and one.a > 1 show one.a", state)
        kept = copy.deepcopy((tree, plain_state(state)))
        told = plans(tree, state)
        before = list(told)
        told.clear()
        ways(tree, state, 0).clear()
        self.assertEqual(plans(tree, state), before)
        self.assertEqual(len(ways(tree, state, 0)), 2)
        self.assertEqual((tree, plain_state(state)), kept)


if __name__ == "__main__":
    unittest.main()
