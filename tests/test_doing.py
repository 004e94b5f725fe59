"""tablestore.doing, by the points [7.4], [7.5], [7.8] and [3] (a) and (b)."""

import copy
import itertools
import random
import unittest

from tablestore.doing import answer, answer_by, doings, tuples_of
from tablestore.errors import Clash
from tablestore.plans import plans
from tablestore.states import all_changed
from tablestore.stores import Store, begin
from things import Asker, asked, entry_rank, plain_answer, plain_holds, plain_ordered, plain_state, plain_tuples
from things import plain_value, rank

ONE = ("one", (("a", "number"), ("b", "text"), ("c", "number")))
TWO = ("two", (("x", "text"), ("y", "number")))
NIL = ("nil", (("z", "number"), ("w", "text")))

BEGUN = [
    ("table", ONE), ("table", TWO), ("table", NIL), ("put", "one", 4, (2, "b", None)), ("put", "one", 9, (1, "a", 5)),
    ("put", "one", 2, (None, "a", 5)), ("put", "one", 5, (2, "", 1)), ("put", "one", 7, (1, None, 2)),
    ("put", "two", 3, ("a", 1)), ("put", "two", 8, ("a", 2)), ("put", "two", 1, (None, None)),
    ("put", "two", 6, ("b", 2)),
    ("put", "two", 5, ("c", 9)),
]
INDEXES = [("index", "one", "a"), ("index", "one", "b"), ("index", "two", "x"), ("index", "two", "y"),
           ("index", "nil", "z")]
STATE = all_changed({}, BEGUN + INDEXES)


def within(value, low, high):
    above = not low or rank(value) > rank(low[0]) or rank(value) == rank(low[0]) and low[1]
    below = not high or rank(value) < rank(high[0]) or rank(value) == rank(high[0]) and high[1]
    return above and below


def joined(one, other):
    return tuple([first or second for first, second in zip(one, other)])


def plain_given(plan, tree, state):
    """What a plan gives by [7.5], another time."""
    word = plan[0]
    many = len(tree[1])

    def lone(k, number):
        return (0,) * k + (number,) + (0,) * (many - k - 1)

    def in_index(k, place, low, high):
        rows = state[tree[1][k][0]].rows
        entries = [(row[place], number) for number, row in rows.items() if within(row[place], low, high)]
        return [number for _, number in sorted(entries, key=entry_rank)]

    if word == "walk":
        return [lone(plan[1], number) for number in sorted(state[tree[1][plan[1]][0]].rows)]
    if word == "seek":
        return [lone(plan[1], number) for number in in_index(*plan[1:])]
    ones = plain_given(plan[1], tree, state)
    if word == "pair":
        return [joined(one, other) for one in ones for other in plain_given(plan[2], tree, state)]
    if word == "match":
        found = []
        for one in ones:
            value = plain_value(tree, state, one, ("cell", plan[4], plan[5]))
            found += [joined(one, lone(plan[2], number)) for number in in_index(plan[2], plan[3], (value, True),
                                                                                (value, True))]
        return found
    if word == "merge":
        found = []
        for first, one in enumerate(ones):
            for second, other in enumerate(plain_given(plan[2], tree, state)):
                value = rank(plain_value(tree, state, one, ("cell", plan[3], plan[4])))
                if value == rank(plain_value(tree, state, other, ("cell", plan[5], plan[6]))):
                    found.append((value, first, second, joined(one, other)))
        return [pick[3] for pick in sorted(found)]
    if word == "sieve":
        return [one for one in ones if plain_holds(tree, state, one, plan[2])]
    return plain_ordered(ones, plan[2], tree, state)


def plain_doings(plan, tree, state):
    done = []
    for inner in plan[1:3] if plan[0] in ("pair", "merge") else plan[1:2] if plan[0] not in ("walk", "seek") else ():
        done += plain_doings(inner, tree, state)
    return done + [(plan, plain_given(plan, tree, state))]


def chance_state(chance, most):
    """A state of the three tables by rows of changes, with some of the indexes from the beginning, some at the end."""
    changes = [("table", ONE), ("table", TWO), ("table", NIL)]
    indexes = [index for index in INDEXES + [("index", "one", "c"), ("index", "nil", "w")] if chance.random() < 0.6]
    ahead = [index for index in indexes if chance.random() < 0.5]
    changes += ahead
    numbers = {"one": [], "two": []}
    for _ in range(most):
        shape = chance.choice([ONE, TWO])
        name = shape[0]
        row = tuple([chance.choice([None, 0, 1, 2, 5]) if kind == "number" else chance.choice([None, "", "a", "b"])
                     for _, kind in shape[1]])
        if numbers[name] and chance.random() < 0.2:
            number = numbers[name].pop(chance.randrange(len(numbers[name])))
            changes.append(("drop", name, number))
        elif numbers[name] and chance.random() < 0.3:
            changes.append(("put", name, chance.choice(numbers[name]), row))
        else:
            number = chance.choice([k for k in range(1, 60) if k not in numbers[name]])
            numbers[name].append(number)
            changes.append(("put", name, number, row))
    return all_changed({}, changes + [index for index in indexes if index not in ahead])


class Given(unittest.TestCase):
    TREE = asked("from one p, two q, one r show p.a", STATE)

    def check(self, plan, wanted):
        told = tuples_of(plan, self.TREE, STATE)
        self.assertIs(type(told), list)
        self.assertEqual(told, wanted)
        self.assertEqual(plain_given(plan, self.TREE, STATE), wanted)

    def test_walk(self):
        self.check(("walk", 0), [(2, 0, 0), (4, 0, 0), (5, 0, 0), (7, 0, 0), (9, 0, 0)])
        self.check(("walk", 1), [(0, 1, 0), (0, 3, 0), (0, 5, 0), (0, 6, 0), (0, 8, 0)])
        self.check(("walk", 2), [(0, 0, 2), (0, 0, 4), (0, 0, 5), (0, 0, 7), (0, 0, 9)])

    def test_seek(self):
        self.check(("seek", 0, 0, (), ()), [(2, 0, 0), (7, 0, 0), (9, 0, 0), (4, 0, 0), (5, 0, 0)])
        self.check(("seek", 2, 0, (1, True), (2, False)), [(0, 0, 7), (0, 0, 9)])
        self.check(("seek", 1, 0, ("a", False), ()), [(0, 6, 0), (0, 5, 0)])
        self.check(("seek", 1, 1, (), (None, True)), [(0, 1, 0)])
        self.check(("seek", 1, 1, (7, True), (3, True)), [])

    def test_pair(self):
        one, other = ("seek", 0, 0, (2, True), ()), ("seek", 1, 0, (), ("b", False))
        self.check(("pair", one, other), [(4, 1, 0), (4, 3, 0), (4, 8, 0), (5, 1, 0), (5, 3, 0), (5, 8, 0)])
        self.check(("pair", other, one), [(4, 1, 0), (5, 1, 0), (4, 3, 0), (5, 3, 0), (4, 8, 0), (5, 8, 0)])
        self.check(("pair", one, ("seek", 1, 1, (99, True), ())), [])
        self.check(("pair", ("pair", ("seek", 2, 0, (None, True), (None, True)), ("seek", 1, 1, (9, True), ())), one),
                   [(4, 5, 2), (5, 5, 2)])

    def test_match(self):
        # Rows of one with the same a as y of two: None with None, 1 with 1, 2 with 2 (two of each), 9 with none.
        self.check(("match", ("walk", 1), 0, 0, 1, 1),
                   [(2, 1, 0), (7, 3, 0), (9, 3, 0), (4, 6, 0), (5, 6, 0), (4, 8, 0), (5, 8, 0)])
        self.check(("match", ("walk", 0), 1, 1, 0, 0),
                   [(2, 1, 0), (4, 6, 0), (4, 8, 0), (5, 6, 0), (5, 8, 0), (7, 3, 0), (9, 3, 0)])
        self.check(("match", ("walk", 0), 1, 0, 0, 1), [(2, 3, 0), (2, 8, 0), (4, 6, 0), (7, 1, 0), (9, 3, 0),
                                                        (9, 8, 0)])
        self.check(("match", ("walk", 0), 1, 0, 0, 0), [(2, 1, 0)])

    def test_merge(self):
        wanted = [(2, 1, 0), (7, 3, 0), (9, 3, 0), (4, 6, 0), (4, 8, 0), (5, 6, 0), (5, 8, 0)]
        self.check(("merge", ("walk", 0), ("walk", 1), 0, 0, 1, 1), wanted)
        other = [(2, 1, 0), (7, 3, 0), (9, 3, 0), (4, 6, 0), (5, 6, 0), (4, 8, 0), (5, 8, 0)]
        self.check(("merge", ("walk", 1), ("walk", 0), 1, 1, 0, 0), other)
        # By b, in which source 0 comes as 7, 5, 2, 9, 4; within one value a's own order stays, whatever it is.
        by_text = ("sort", ("walk", 0), ((("cell", 0, 1), True),))
        self.check(("merge", by_text, ("walk", 1), 0, 0, 1, 1),
                   [(2, 1, 0), (9, 3, 0), (7, 3, 0), (4, 6, 0), (4, 8, 0), (5, 6, 0), (5, 8, 0)])
        turned = ("sort", ("walk", 1), ((("cell", 1, 0), False),))
        self.check(("merge", ("walk", 0), turned, 0, 0, 1, 1),
                   [(2, 1, 0), (7, 3, 0), (9, 3, 0), (4, 8, 0), (4, 6, 0), (5, 8, 0), (5, 6, 0)])
        self.check(("merge", ("walk", 0), ("walk", 2), 0, 0, 2, 1), [(2, 0, 7)])
        self.check(("merge", ("walk", 0), ("seek", 2, 1, ("", True), ()), 0, 0, 2, 1), [])
        self.check(("merge", ("seek", 0, 0, (99, True), ()), ("walk", 1), 0, 0, 1, 1), [])

    def test_sieve(self):
        small = ("test", "<", ("cell", 0, 0), ("value", 2))
        self.check(("sieve", ("walk", 0), small), [(2, 0, 0), (7, 0, 0), (9, 0, 0)])
        self.check(("sieve", ("seek", 0, 1, (), ()), small), [(7, 0, 0), (2, 0, 0), (9, 0, 0)])
        self.check(("sieve", ("walk", 0), ("not", small)), [(4, 0, 0), (5, 0, 0)])

    def test_sort(self):
        a, b, c = [("cell", 0, place) for place in range(3)]
        for orders, numbers in (
            ((), [2, 4, 5, 7, 9]), (((a, False),), [2, 7, 9, 4, 5]), (((a, True),), [4, 5, 7, 9, 2]),
            (((b, False),), [7, 5, 2, 9, 4]),
            (((b, True),), [4, 2, 9, 5, 7]), (((c, False), (a, True)), [4, 5, 7, 9, 2]),
            (((c, True), (a, False)), [2, 9, 7, 5, 4]),
            (((a, True), (b, False)), [5, 4, 7, 9, 2]), (((a, False), (a, True)), [2, 7, 9, 4, 5]),
        ):
            self.check(("sort", ("walk", 0), orders), [(number, 0, 0) for number in numbers])
            self.check(("sort", ("seek", 0, 1, (), ()), orders), [(number, 0, 0) for number in numbers])

    def test_by_their_numbers_source_by_source(self):
        plan = ("sort", ("pair", ("walk", 1), ("walk", 0)), ())
        self.check(plan, [(p, q, 0) for p in (2, 4, 5, 7, 9) for q in (1, 3, 5, 6, 8)])


class Doings(unittest.TestCase):
    def test_each_behind_those_within_it(self):
        tree = asked("from one p, two q where p.a = q.y and p.a > 1 show p.a", STATE)
        small = ("test", ">", ("cell", 0, 0), ("value", 1))
        seek = ("seek", 0, 0, (1, False), ())
        merge = ("merge", ("sieve", seek, small), ("walk", 1), 0, 0, 1, 1)
        plan = ("sort", ("sieve", merge, ("test", "=", ("cell", 0, 0), ("cell", 1, 1))), ())
        self.assertIn(plan, plans(tree, STATE))
        told = doings(plan, tree, STATE)
        self.assertIs(type(told), list)
        self.assertEqual(told, [
            (seek, [(4, 0), (5, 0)]), (("sieve", seek, small), [(4, 0), (5, 0)]),
            (("walk", 1), [(0, 1), (0, 3), (0, 5), (0, 6), (0, 8)]), (merge, [(4, 6), (4, 8), (5, 6), (5, 8)]),
            (plan[1], [(4, 6), (4, 8), (5, 6), (5, 8)]), (plan, [(4, 6), (4, 8), (5, 6), (5, 8)])])
        for pair in told:
            self.assertIs(type(pair), tuple)
            self.assertIs(type(pair[1]), list)

    def test_each_list_by_itself(self):
        tree = asked("from one p, one q show p.a", STATE)
        plan = ("sort", ("sieve", ("pair", ("walk", 0), ("walk", 0)), ("test", "=", ("value", 1), ("value", 1))), ())
        told = doings(plan, tree, STATE)
        lists = [pair[1] for pair in told]
        self.assertEqual(len({id(given) for given in lists}), len(lists))
        before = copy.deepcopy(lists)
        for place, given in enumerate(lists):
            given.append("more")
            self.assertEqual([other for k, other in enumerate(lists) if k > place], before[place + 1:])

    def test_every_plan_within_every_plan(self):
        chance = random.Random(131)
        asker = Asker(chance, [ONE, TWO, NIL])
        for _ in range(60):
            state = chance_state(chance, 14)
            tree = asked(asker.question(), state)
            every = plans(tree, state)
            for plan in chance.sample(every, min(6, len(every))):
                told = doings(plan, tree, state)
                self.assertEqual(told, plain_doings(plan, tree, state))
                self.assertEqual(tuples_of(plan, tree, state), told[-1][1])


class Answers(unittest.TestCase):
    def check(self, text, wanted, state=STATE):
        tree = asked(text, state)
        self.assertEqual(plain_answer(tree, state), wanted, text)
        told = answer(tree, state)
        self.assertIs(type(told), list)
        self.assertEqual(repr(told), repr(wanted), text)
        for plan in plans(tree, state):
            self.assertEqual(repr(answer_by(plan, tree, state)), repr(wanted), plan)

    def test_written_out(self):
        self.check("from one show one.a, one.b", [(None, "a"), (2, "b"), (2, ""), (1, None), (1, "a")])
        self.check("from one order by one.a show one.a, one.b", [(None, "a"), (1, None), (1, "a"), (2, "b"), (2, "")])
        self.check("from one order by one.a down, one.b show one.b", [("",), ("b",), (None,), ("a",), ("a",)])
        self.check("from one where one.a >= 1 and one.a < 2 show one.c, one.c", [(2, 2), (5, 5)])
        self.check("from one p, two q where p.a = q.y order by q.x, p.b down show q.x, p.b, p.a",
                   [(None, "a", None), ("a", "b", 2), ("a", "a", 1), ("a", "", 2), ("a", None, 1), ("b", "b", 2),
                    ("b", "", 2)])
        self.check('from two q where not q.x = "a" show q.x, q.y', [(None, None), ("c", 9), ("b", 2)])
        self.check("from one p, one q where p.a = q.a and p.c < q.c show p.c, q.c", [(None, 1), (2, 5)])

    def test_tables_without_rows(self):
        for text in ("from nil show nil.z", "from nil, one show one.a", "from one, nil where one.a = nil.z show one.a",
                     "from nil p, nil q where p.z = q.z show p.z",
                     "from nil where nil.z > 1 order by nil.w show nil.z take 5",
                     "from one p, two q, nil r where p.a = q.y and q.y = r.z show p.a"):
            self.check(text, [])

    def test_take(self):
        every = [(None,), (1,), (1,), (2,), (2,)]
        for take in range(8):
            self.check(f"from one order by one.a show one.a take {take}", every[:take])
        self.check("from one order by one.a show one.a take " + "9" * 18, every)
        self.check("from one p, one q show p.a take 0", [])

    def test_values_alike_and_none_up_and_down(self):
        self.check("from two order by two.y show two.x, two.y", [(None, None), ("a", 1), ("b", 2), ("a", 2), ("c", 9)])
        self.check("from two order by two.y down show two.x, two.y", [("c", 9), ("b", 2), ("a", 2), ("a", 1),
                                                                      (None, None)])
        self.check("from two order by two.x down, two.y down show two.x, two.y",
                   [("c", 9), ("b", 2), ("a", 2), ("a", 1), (None, None)])

    def test_values_that_have_no_partner_or_many(self):
        rows = [("put", "one", k, (7, "x", k)) for k in range(20, 24)] + [("put", "two", k,
                                                                           ("x", 7)) for k in range(20, 23)]
        state = all_changed(STATE, rows)
        self.check("from one p, two q where p.a = q.y and p.a = 7 show p.c, q.y",
                   [(c, 7) for c in range(20, 24) for _ in range(3)], state)
        self.check("from one p, two q where p.c = q.y and q.y = 9 show p.a", [], state)

    def test_conditions_of_no_source(self):
        self.check("from two where 1 = 2 show two.x", [])
        self.check("from two, one where 1 = 2 and two.y = one.a show two.x", [])
        self.check('from two where "a" < "b" and two.y = 9 show two.x', [("c",)])

    def test_three_sources(self):
        self.check("from one p, two q, one r where p.a = q.y and r.a = q.y and p.c < r.c order by r.c down "
                   "show p.c, q.x, r.c",
                   [(2, "a", 5), (None, "b", 1), (None, "a", 1)])

    def test_questions_by_chance_by_every_plan(self):
        chance = random.Random(132)
        asker = Asker(chance, [ONE, ONE, TWO, TWO, NIL])
        for turn in range(900):
            state = chance_state(chance, chance.choice([6, 14, 30]) if turn % 4 else 12)
            tree = asked(asker.question(3 if turn % 4 == 0 else 2), state)
            wanted = repr(plain_answer(tree, state))
            self.assertEqual(repr(answer(tree, state)), wanted)
            tuples = plain_tuples(tree, state)
            for plan in plans(tree, state):
                self.assertEqual(repr(answer_by(plan, tree, state)), wanted)
                self.assertEqual(tuples_of(plan, tree, state), tuples)

    def test_every_plan_of_one_question(self):
        tree = asked("from one p, two q, one r where p.a = q.y and q.x = r.b and p.a = r.a and p.a > none and q.y < 3 "
                     "order by q.x show p.c, r.c", STATE)
        every = plans(tree, STATE)
        self.assertGreater(len(every), 100)
        wanted = plain_answer(tree, STATE)
        self.assertEqual({repr(answer_by(plan, tree, STATE)) for plan in every}, {repr(wanted)})

    def test_larger_tables(self):
        changes = [("table", ONE), ("table", TWO), ("index", "one", "a")]
        changes += [("put", "one", k, (k % 97, "ab"[k % 2], k)) for k in range(1, 1201)]
        changes += [("put", "two", k, ("a", k * 3)) for k in range(1, 301)]
        state = all_changed({}, changes)
        tree = asked("from one p, two q where p.a = q.y and p.b = q.x and p.a > 40 order by p.c down "
                     "show p.c, q.y take 7", state)
        found = [(c, a) for a, b, c in state["one"].rows.values() if a > 40 and a % 3 == 0 and b == "a"]
        self.assertEqual(answer(tree, state), sorted(found, reverse=True)[:7])

    def test_what_is_handed_in_stays_and_what_is_told_is_the_askers_own(self):
        tree = asked("from one p, two q where p.a = q.y order by p.b down show p.a", STATE)
        kept = copy.deepcopy((tree, plain_state(STATE)))
        told = answer(tree, STATE)
        before = list(told)
        for plan in plans(tree, STATE):
            answer_by(plan, tree, STATE).clear()
            tuples_of(plan, tree, STATE).clear()
            doings(plan, tree, STATE).clear()
        self.assertEqual((tree, plain_state(STATE)), kept)
        self.assertEqual(told, before)
        told.clear()
        self.assertEqual(answer(tree, STATE), before)


class InDealings(unittest.TestCase):
    """A question is answered over what its dealing sees: the store at its start, and its own changes."""

    def test_by_chance(self):
        chance = random.Random(133)
        asker = Asker(chance, [ONE, TWO])
        for _ in range(12):
            store = Store()
            first = begin(store)
            for change in BEGUN:
                if change[0] == "table":
                    first.make(change[1])
                else:
                    first.put(change[1], change[3])
            first.keep()
            going = [begin(store) for _ in range(3)]
            starts = [store.newest()] * 3
            for _ in range(40):
                place = chance.randrange(3)
                dealing = going[place]
                turn = chance.random()
                if turn < 0.6:
                    self.one_deed(chance, dealing)
                elif turn < 0.9:
                    text = asker.question(2)
                    own = all_changed(starts[place], dealing.mine())
                    tree = asked(text, own)
                    self.assertEqual(answer(tree, dealing.view()), plain_answer(tree, own))
                else:
                    try:
                        dealing.keep()
                    except Clash:
                        pass
                    going[place] = begin(store)
                    kept = [store.changes(k) for k in range(store.many())]
                    starts[place] = all_changed({}, list(itertools.chain(*kept)))

    def one_deed(self, chance, dealing):
        shape = chance.choice([ONE, TWO])
        table = dealing.view()[shape[0]]
        picks = {"number": [None, 0, 1, 2], "text": [None, "a", "b"]}
        row = tuple([chance.choice(picks[kind]) for _, kind in shape[1]])
        free = [column for column, _ in shape[1] if column not in table.indexes]
        turn = chance.random()
        if turn < 0.2 and free:
            dealing.order_by(shape[0], chance.choice(free))
        elif turn < 0.4 and table.rows:
            dealing.drop(shape[0], chance.choice(sorted(table.rows)))
        elif turn < 0.6 and table.rows:
            dealing.change(shape[0], chance.choice(sorted(table.rows)), row)
        else:
            dealing.put(shape[0], row)


if __name__ == "__main__":
    unittest.main()
