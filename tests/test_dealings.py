"""tablestore.dealings and tablestore.stores, by the points [4.1] to [4.9] and [3] (c)."""

import copy
import random
import unittest

from tablestore.dealings import Dealing, keys_of, meets
from tablestore.errors import (
    BadChange, BadRow, BadShape, Clash, IndexThere, NoColumn, NoRow, NoTable, Over, TableError, TableThere)
from tablestore.stores import Store, begin, store_of
from things import check_state, no_values, plain_changed, plain_state

PEOPLE = ("people", (("name", "text"), ("age", "number")))
PETS = ("pets", (("kind", "text"),))
MORE = ("more", (("a", "number"), ("b", "number")))

BEGUN = [
    [("table", PEOPLE), ("put", "people", 1, ("ann", 31)), ("put", "people", 2, ("bea", None))],
    [("table", PETS), ("index", "people", "age"), ("put", "pets", 3, ("dog",))],
]

NO_TABLES = ["nobody", "", "none", None, 0, True, (), ["people"], ("people",)] + no_values()
NO_NUMBERS = [0, 3, -1, 10 ** 9, 10 ** 30, True, False, 1.0, None, "1", (), [1], (1,)] + no_values()
NO_ROWS = [("a",), ("a", 1, 1), (1, "a"), ["a", 1], ("a", True), None, (), "ab", 7] + no_values()


def plain_key(change):
    if change[0] == "table":
        return ("table", change[1][0])
    return change if change[0] == "index" else ("row", change[1], change[2])


def done_to(wanted, changes):
    for change in changes:
        wanted = plain_changed(wanted, change)
    return wanted


class TestCase(unittest.TestCase):
    def check_refused(self, kind, deed, *arguments):
        with self.assertRaises(TableError) as caught:
            deed(*arguments)
        self.assertIs(type(caught.exception), kind, repr(arguments)[:80])

    def check_store(self, store, rows):
        """That a store has just this row, with the states and the newest one that it makes."""
        self.assertEqual(store.many(), len(rows))
        wanted = {}
        check_state(self, store.state(0), {})
        for k, changes in enumerate(rows):
            told = store.changes(k)
            self.assertIs(type(told), list)
            self.assertEqual(told, changes)
            wanted = done_to(wanted, changes)
            check_state(self, store.state(k + 1), wanted)
        check_state(self, store.newest(), wanted)


class Stores(TestCase):
    def test_a_new_store(self):
        store = Store()
        self.check_store(store, [])
        self.assertEqual(store.greatest(), 0)
        self.assertEqual(store.state(0), {})

    def test_a_dealing_kept_stands_in_the_row(self):
        store = Store()
        for k in range(5):
            dealing = begin(store)
            self.assertIs(type(dealing), Dealing)
            self.assertEqual(dealing.start(), k)
            dealing.make(("t" + "abcde"[k], (("x", "number"),)))
            self.assertEqual(dealing.put("t" + "abcde"[k], (k,)), k + 1)
            self.assertEqual(store.many(), k)
            self.assertEqual(dealing.keep(), k + 1)
            self.assertEqual(store.greatest(), k + 1)
        self.check_store(store, [
            [("table", ("t" + letter, (("x", "number"),))), ("put", "t" + letter, k + 1, (k,))]
            for k, letter in enumerate("abcde")])

    def test_two_stores_have_nothing_in_common(self):
        one = Store()
        other = Store()
        dealing = begin(one)
        dealing.make(PEOPLE)
        dealing.put("people", ("ann", 1))
        dealing.keep()
        self.check_store(other, [])
        self.assertEqual(other.greatest(), 0)
        self.assertEqual(Store().state(0), {})

    def test_what_once_stood_there_stays(self):
        store = store_of(BEGUN)
        before = [plain_state(store.state(k)) for k in range(3)]
        changes = [store.changes(k) for k in range(2)]
        held = [store.state(k) for k in range(3)]
        for turn in range(20):
            dealing = begin(store)
            dealing.change("people", 1, ("ann", turn))
            dealing.put("people", (None, None))
            dealing.keep()
            self.assertEqual([plain_state(store.state(k)) for k in range(3)], before)
            self.assertEqual([plain_state(state) for state in held], before)
            self.assertEqual([store.changes(k) for k in range(2)], changes)
        self.assertEqual(store.many(), 22)


class StoreOf(TestCase):
    def test_lists_of_changes(self):
        self.check_store(store_of([]), [])
        self.check_store(store_of(BEGUN), BEGUN)
        self.assertEqual(store_of([]).greatest(), 0)
        self.assertEqual(store_of(BEGUN).greatest(), 3)

    def test_empty_lists_do_not_stand_in_the_row(self):
        store = store_of([[], BEGUN[0], [], [], BEGUN[1], []])
        self.check_store(store, BEGUN)
        self.assertEqual(store_of([[], []]).many(), 0)

    def test_numbers_told_in_puts_and_drops(self):
        begun = [("table", PETS), ("put", "pets", 70, ("dog",)), ("put", "pets", 5, ("cat",))]
        for rows, greatest in (
            ([begun], 70), ([begun, [("drop", "pets", 70)]], 70), ([begun, [("drop", "pets", 5)]], 70),
            ([begun + [("drop", "pets", 70), ("drop", "pets", 5)]], 70), ([[("table", PETS)]], 0),
            ([begun, [("put", "pets", 10 ** 9, ("x",))]], 10 ** 9),
            ([begun, [], [("put", "pets", 90, ("x",)), ("drop", "pets", 90)], []], 90),
        ):
            store = store_of(rows)
            self.assertEqual(store.greatest(), greatest)
            if greatest < 10 ** 9:
                self.assertEqual(begin(store).put("pets", ("new",)), greatest + 1)

    def test_refused_as_the_first_change_that_is(self):
        for rows, kind in (
            ([[("drop", "people", 1)]], NoTable), (BEGUN + [[("drop", "people", 9)], None], NoRow),
            (BEGUN + [[("table", PETS), None]], TableThere), (BEGUN + [[None, ("table", PETS)]], BadChange),
            (BEGUN + [[("index", "people", "age")]], IndexThere), (BEGUN + [[("index", "pets", "age")]], NoColumn),
            ([[("table", ("x", ()))]], BadShape), (BEGUN + [[("put", "pets", 1, (1,))]], BadRow),
            (BEGUN + [[("put", "pets", 0, ("a",))]], BadChange), (BEGUN + [[], [("put", "pets", True, ("a",))]],
                                                                  BadChange),
            (BEGUN + [[("drop", "people", 1)], [("drop", "people", 1)]], NoRow),
        ):
            self.check_refused(kind, store_of, rows)

    def test_lists_handed_in_stay_and_may_be_changed_behind_the_call(self):
        rows = copy.deepcopy(BEGUN)
        store = store_of(rows)
        self.assertEqual(rows, BEGUN)
        rows[0].append(("drop", "people", 1))
        rows[1].clear()
        rows.append([("drop", "people", 2)])
        self.check_store(store, BEGUN)
        dealing = begin(store)
        dealing.drop("people", 1)
        dealing.keep()
        self.assertEqual(store.many(), 3)


class Seeing(TestCase):
    def test_a_dealing_sees_its_start_and_its_own_changes_alone(self):
        store = store_of(BEGUN)
        one = begin(store)
        other = begin(store)
        one.put("people", ("cid", 5))
        other.drop("people", 2)
        start = done_to({}, BEGUN[0] + BEGUN[1])
        check_state(self, one.view(), done_to(start, [("put", "people", 4, ("cid", 5))]))
        check_state(self, other.view(), done_to(start, [("drop", "people", 2)]))
        one.keep()
        check_state(self, other.view(), done_to(start, [("drop", "people", 2)]))
        third = begin(store)
        self.assertEqual((other.start(), third.start()), (2, 3))
        check_state(self, third.view(), done_to(start, [("put", "people", 4, ("cid", 5))]))
        other.keep()
        check_state(self, third.view(), done_to(start, [("put", "people", 4, ("cid", 5))]))
        check_state(self, store.newest(), done_to(start, [("put", "people", 4, ("cid", 5)), ("drop", "people", 2)]))

    def test_a_view_that_was_told_stays(self):
        store = store_of(BEGUN)
        dealing = begin(store)
        told = []
        for turn in range(20):
            view = dealing.view()
            told.append((view, plain_state(view)))
            dealing.put("people", ("x", turn))
            dealing.change("people", 1, ("ann", turn))
        dealing.keep()
        for view, plain in told:
            self.assertEqual(plain_state(view), plain)

    def test_all_deeds(self):
        store = Store()
        dealing = begin(store)
        self.assertEqual(dealing.view(), {})
        self.assertEqual(dealing.mine(), [])
        self.assertIsNone(dealing.make(PEOPLE))
        self.assertEqual(dealing.put("people", ("ann", 1)), 1)
        self.assertIsNone(dealing.order_by("people", "age"))
        self.assertEqual(dealing.put("people", ("bea", 2)), 2)
        self.assertIsNone(dealing.change("people", 1, ("ann", None)))
        self.assertIsNone(dealing.drop("people", 2))
        changes = [
            ("table", PEOPLE), ("put", "people", 1, ("ann", 1)), ("index", "people", "age"),
            ("put", "people", 2, ("bea", 2)), ("put", "people", 1, ("ann", None)), ("drop", "people", 2),
        ]
        self.assertEqual(dealing.mine(), changes)
        check_state(self, dealing.view(), {"people": (PEOPLE, {1: ("ann", None)}, ["age"])})
        self.assertEqual(dealing.keep(), 1)
        self.check_store(store, [changes])


class Numbers(TestCase):
    def test_numbers_go_over_all_tables_and_dealings(self):
        store = store_of(BEGUN)
        one = begin(store)
        other = begin(store)
        self.assertEqual(one.put("people", ("a", 1)), 4)
        self.assertEqual(other.put("pets", ("cat",)), 5)
        self.assertEqual(one.put("pets", ("cat",)), 6)
        self.assertEqual(store.greatest(), 6)

    def test_numbers_of_dealings_that_are_left_or_clash_are_never_given_again(self):
        store = store_of(BEGUN)
        left = begin(store)
        self.assertEqual(left.put("people", ("a", 1)), 4)
        left.leave()
        clashing = begin(store)
        self.assertEqual(clashing.put("people", ("a", 1)), 5)
        clashing.drop("people", 1)
        winning = begin(store)
        winning.drop("people", 1)
        winning.keep()
        self.check_refused(Clash, clashing.keep)
        self.assertEqual(store.greatest(), 5)
        self.assertEqual(begin(store).put("people", ("a", 1)), 6)
        self.assertEqual(begin(store).put("people", ("a", 1)), 7)

    def test_dropped_numbers_are_never_given_again(self):
        store = store_of(BEGUN)
        dealing = begin(store)
        dealing.drop("pets", 3)
        dealing.drop("people", dealing.put("people", ("a", 1)))
        self.assertEqual(dealing.put("people", ("a", 1)), 5)

    def test_a_refused_put_takes_no_number(self):
        store = store_of(BEGUN)
        dealing = begin(store)
        for row in NO_ROWS:
            self.check_refused(BadRow, dealing.put, "people", row)
        self.check_refused(NoTable, dealing.put, "nobody", ("a", 1))
        self.assertEqual(store.greatest(), 3)
        self.assertEqual(dealing.put("people", ("a", 1)), 4)

    def test_no_number_is_left(self):
        store = store_of(BEGUN + [[("put", "pets", 10 ** 9 - 1, ("last",))]])
        dealing = begin(store)
        self.assertEqual(dealing.put("pets", ("one more",)), 10 ** 9)
        mine = dealing.mine()
        self.check_refused(BadChange, dealing.put, "pets", ("no more",))
        self.check_refused(BadChange, dealing.put, "pets", None)
        self.check_refused(NoTable, dealing.put, "nobody", None)
        self.assertEqual(dealing.mine(), mine)
        self.assertEqual(store.greatest(), 10 ** 9)
        dealing.drop("pets", 10 ** 9)
        self.check_refused(BadChange, dealing.put, "pets", ("no more",))
        self.check_refused(BadChange, begin(store).put, "people", ("a", 1))
        dealing.change("people", 1, ("still", 1))
        dealing.keep()


class Refused(TestCase):
    def setUp(self):
        self.store = store_of(BEGUN)
        self.dealing = begin(self.store)
        self.dealing.put("pets", ("cat",))

    def check(self, kind, deed, *arguments):
        before = plain_state(self.dealing.view())
        self.check_refused(kind, deed, *arguments)
        self.assertEqual(plain_state(self.dealing.view()), before)
        self.assertEqual(self.dealing.mine(), [("put", "pets", 4, ("cat",))])
        self.assertEqual(self.store.greatest(), 4)

    def test_make(self):
        for shape in [("x",), ("x", ()), ["x", PETS[1]], ("x", list(PETS[1])), None, "x", 7,
                      ("pets", ())] + no_values():
            self.check(BadShape, self.dealing.make, shape)
        for shape in (PEOPLE, ("people", PETS[1]), PETS):
            self.check(TableThere, self.dealing.make, shape)

    def test_order_by(self):
        for name in NO_TABLES:
            self.check(NoTable, self.dealing.order_by, name, "age")
            self.check(NoTable, self.dealing.order_by, name, None)
        for column in ["", "kind", "people", None, 0, True, (), ["age"], ("age", "number")] + no_values():
            self.check(NoColumn, self.dealing.order_by, "people", column)
        self.check(IndexThere, self.dealing.order_by, "people", "age")

    def test_put(self):
        for name in NO_TABLES:
            self.check(NoTable, self.dealing.put, name, ("a", 1))
            self.check(NoTable, self.dealing.put, name, None)
        for row in NO_ROWS:
            self.check(BadRow, self.dealing.put, "people", row)

    def test_change(self):
        for name in NO_TABLES:
            self.check(NoTable, self.dealing.change, name, 1, ("a", 1))
            self.check(NoTable, self.dealing.change, name, None, None)
        for number in NO_NUMBERS:
            self.check(NoRow, self.dealing.change, "people", number, ("a", 1))
            self.check(NoRow, self.dealing.change, "people", number, None)
        for row in NO_ROWS:
            self.check(BadRow, self.dealing.change, "people", 1, row)
        # The row of another table, and one that another dealing put.
        self.check(NoRow, self.dealing.change, "people", 4, ("a", 1))
        other = begin(self.store)
        other.leave()
        self.check(NoRow, self.dealing.change, "people", 5, ("a", 1))

    def test_drop(self):
        for name in NO_TABLES:
            self.check(NoTable, self.dealing.drop, name, 1)
            self.check(NoTable, self.dealing.drop, name, None)
        for number in NO_NUMBERS:
            self.check(NoRow, self.dealing.drop, "people", number)

    def test_what_others_made_is_not_there(self):
        other = begin(self.store)
        other.make(MORE)
        number = other.put("people", ("z", 1))
        other.keep()
        self.check_refused(NoTable, self.dealing.put, "more", (1, 2))
        self.check_refused(NoRow, self.dealing.change, "people", number, ("a", 1))
        self.check_refused(NoRow, self.dealing.drop, "people", number)
        self.assertIsNone(self.dealing.make(MORE))


class Keeping(TestCase):
    def test_a_dealing_without_changes(self):
        store = store_of(BEGUN)
        dealing = begin(store)
        other = begin(store)
        other.drop("people", 1)
        self.assertEqual(other.keep(), 3)
        self.assertEqual(dealing.keep(), 3)
        self.check_store(store, BEGUN + [[("drop", "people", 1)]])
        self.assertEqual(begin(Store()).keep(), 0)

    def clash_of(self, one_deed, other_deed):
        """Whether a dealing clashes with another one that was kept since its start."""
        store = store_of(BEGUN)
        one = begin(store)
        other = begin(store)
        one_deed(one)
        other_deed(other)
        one_changes = one.mine()
        other_changes = other.mine()
        self.assertEqual(other.keep(), 3)
        try:
            self.assertEqual(one.keep(), 4)
        except Clash:
            self.check_refused(Over, one.keep)
            self.check_refused(Over, one.view)
            self.check_store(store, BEGUN + [other_changes])
            return True
        self.check_store(store, BEGUN + [other_changes, one_changes])
        return False

    def test_which_deeds_clash(self):
        deeds = {
            "make": lambda dealing: dealing.make(MORE),
            "make otherwise": lambda dealing: dealing.make(("more", PETS[1])),
            "order": lambda dealing: dealing.order_by("people", "name"),
            "order pets": lambda dealing: dealing.order_by("pets", "kind"),
            "put": lambda dealing: dealing.put("people", ("x", 1)),
            "change one": lambda dealing: dealing.change("people", 1, ("x", 1)),
            "drop one": lambda dealing: dealing.drop("people", 1),
            "change two": lambda dealing: dealing.change("people", 2, ("x", 1)),
            "drop three": lambda dealing: dealing.drop("pets", 3),
        }
        meeting = [{"make", "make otherwise"}, {"change one", "drop one"}]
        for one in deeds:
            for other in deeds:
                wanted = one == other and one != "put" or {one, other} in meeting
                self.assertIs(self.clash_of(deeds[one], deeds[other]), wanted, (one, other))

    def test_a_row_put_and_dropped_again_counts_all_the_same(self):
        store = store_of(BEGUN)
        dealing = begin(store)
        number = dealing.put("people", ("x", 1))
        dealing.drop("people", number)
        self.assertEqual(keys_of(dealing.mine()), [("row", "people", number)])
        self.assertEqual(dealing.keep(), 3)
        self.check_store(store, BEGUN + [[("put", "people", 4, ("x", 1)), ("drop", "people", 4)]])
        self.assertIs(meets([("put", "people", 4, ("x", 1)), ("drop", "people", 4)], [[("drop", "people", 4)]]), True)

    def test_changes_taken_back_by_hand_clash_all_the_same(self):
        def back_and_forth(dealing):
            dealing.change("people", 1, ("x", 1))
            dealing.change("people", 1, ("ann", 31))

        self.assertIs(self.clash_of(back_and_forth, lambda dealing: dealing.drop("people", 1)), True)
        self.assertIs(self.clash_of(lambda dealing: dealing.drop("people", 1), back_and_forth), True)

    def test_only_those_kept_since_its_start_count(self):
        store = store_of(BEGUN)
        first = begin(store)
        first.change("people", 1, ("x", 1))
        first.keep()
        second = begin(store)
        second.change("people", 1, ("y", 1))
        self.assertEqual(second.keep(), 4)
        left = begin(store)
        left.change("people", 1, ("z", 1))
        third = begin(store)
        third.change("people", 1, ("w", 1))
        left.leave()
        self.assertEqual(third.keep(), 5)
        self.assertEqual(store.newest()["people"].rows[1], ("w", 1))

    def test_a_dealing_that_clashed_touches_nothing(self):
        store = store_of(BEGUN)
        one, two, three = begin(store), begin(store), begin(store)
        one.change("people", 1, ("x", 1))
        two.change("people", 1, ("y", 1))
        two.change("people", 2, ("y", 1))
        three.change("people", 2, ("z", 1))
        one.keep()
        self.check_refused(Clash, two.keep)
        self.assertEqual(three.keep(), 4)

    def test_any_of_several_kept_since(self):
        for place in range(4):
            store = store_of(BEGUN)
            late = begin(store)
            late.drop("people", 2)
            for k in range(4):
                dealing = begin(store)
                dealing.put("pets", ("x",))
                if k == place:
                    dealing.change("people", 2, ("x", 1))
                dealing.keep()
            self.check_refused(Clash, late.keep)

    def test_an_index_of_one_and_rows_of_another(self):
        for rows_first in (True, False):
            store = store_of(BEGUN)
            rows, order = begin(store), begin(store)
            rows.put("people", ("x", 1))
            rows.drop("people", 2)
            order.order_by("people", "name")
            for dealing in (rows, order) if rows_first else (order, rows):
                dealing.keep()
            check_state(self, store.newest(), {
                "people": (PEOPLE, {1: ("ann", 31), 4: ("x", 1)}, ["age", "name"]), "pets": (PETS, {3: ("dog",)}, [])})


class OverAndLeft(TestCase):
    def check_over(self, dealing):
        for deed, arguments in (
            (dealing.start, ()), (dealing.view, ()), (dealing.mine, ()), (dealing.make, (MORE,)),
            (dealing.make, (None,)),
            (dealing.order_by, ("people", "name")), (dealing.order_by, (None, None)),
            (dealing.put, ("people", ("a", 1))),
            (dealing.put, (None, None)), (dealing.change, ("people", 1, ("a", 1))),
            (dealing.change, (None, None, None)),
            (dealing.drop, ("people", 1)), (dealing.drop, (None, None)), (dealing.keep, ()), (dealing.leave, ()),
        ):
            self.check_refused(Over, deed, *arguments)

    def test_left(self):
        store = store_of(BEGUN)
        dealing = begin(store)
        dealing.make(MORE)
        dealing.put("people", ("x", 1))
        dealing.drop("people", 1)
        self.assertIsNone(dealing.leave())
        self.check_over(dealing)
        self.check_store(store, BEGUN)
        self.assertEqual(store.greatest(), 4)

    def test_kept(self):
        for changing in (True, False):
            store = store_of(BEGUN)
            dealing = begin(store)
            if changing:
                dealing.drop("people", 1)
            dealing.keep()
            self.check_over(dealing)
            self.assertEqual(store.many(), 3 if changing else 2)
            self.assertEqual(store.greatest(), 3)

    def test_clashed(self):
        store = store_of(BEGUN)
        dealing, other = begin(store), begin(store)
        dealing.drop("people", 1)
        other.drop("people", 1)
        other.keep()
        self.check_refused(Clash, dealing.keep)
        self.check_over(dealing)
        self.assertEqual(store.many(), 3)

    def test_others_go_on(self):
        store = store_of(BEGUN)
        dealing, other = begin(store), begin(store)
        dealing.leave()
        other.drop("people", 1)
        self.assertEqual(other.keep(), 3)


class Lists(TestCase):
    def test_lists_that_are_told_are_the_askers_own(self):
        store = store_of(BEGUN)
        dealing = begin(store)
        dealing.drop("people", 1)
        told = dealing.mine()
        told.append("more")
        self.assertEqual(dealing.mine(), [("drop", "people", 1)])
        held = dealing.mine()
        dealing.drop("people", 2)
        self.assertEqual(held, [("drop", "people", 1)])
        dealing.keep()
        for k in range(3):
            before = store.changes(k)
            store.changes(k).clear()
            self.assertEqual(store.changes(k), before)
        self.check_store(store, BEGUN + [[("drop", "people", 1), ("drop", "people", 2)]])

    def test_what_is_handed_to_keys_of_and_meets_stays(self):
        changes = BEGUN[0] + BEGUN[1]
        rows = [list(row) for row in BEGUN]
        keys_of(changes).append("more")
        meets(changes, rows)
        self.assertEqual(changes, BEGUN[0] + BEGUN[1])
        self.assertEqual(rows, BEGUN)


class Keys(TestCase):
    def test_keys_of(self):
        self.assertEqual(keys_of([]), [])
        self.assertEqual(
            keys_of([
                ("put", "people", 2, ("a", 1)), ("table", PETS), ("drop", "people", 2), ("index", "people", "age"),
                ("put", "people", 1, ("a", 1)), ("put", "people", 2, ("a", 1)), ("put", "pets", 2, ("a",))]),
            [("row", "people", 2), ("table", "pets"), ("index", "people", "age"), ("row", "people", 1),
             ("row", "pets", 2)])

    def test_meets(self):
        put, drop = ("put", "people", 2, ("a", 1)), ("drop", "people", 2)
        self.assertIs(meets([], []), False)
        self.assertIs(meets([put], []), False)
        self.assertIs(meets([], [[put]]), False)
        self.assertIs(meets([put], [[]]), False)
        self.assertIs(meets([put], [[drop]]), True)
        self.assertIs(meets([("table", PETS), put], [[("table", PEOPLE)], [("drop", "pets", 2), drop]]), True)
        self.assertIs(meets([put], [[("drop", "people", 3), ("drop", "pets", 2)], [("table", PEOPLE)]]), False)
        self.assertIs(meets([("index", "people", "age")], [[("index", "people", "name")]]), False)
        self.assertIs(meets([("index", "people", "age")], [[("index", "people", "age")]]), True)


class ManyAtOnce(TestCase):
    """Several dealings open at once, by chance, against plain rows that are kept here."""

    def one_deed(self, chance, dealing, wanted, given):
        """Does a deed that can be done; what the dealing sees then, and the change."""
        names = sorted(wanted)
        word = chance.choice(["make", "order", "put", "put", "put", "change", "change", "drop"])
        fresh = [shape for shape in (PEOPLE, PETS, MORE) if shape[0] not in wanted]
        if word == "make" and fresh:
            shape = chance.choice(fresh)
            dealing.make(shape)
            return ("table", shape)
        if not names:
            return None
        name = chance.choice(names)
        shape, rows, columns = wanted[name]
        row = tuple([chance.choice([None, "xyz"[chance.randrange(3)] if kind == "text" else chance.randrange(4)])
                     for _, kind in shape[1]])
        free = [column for column, _ in shape[1] if column not in columns]
        if word == "order" and free:
            column = chance.choice(free)
            dealing.order_by(name, column)
            return ("index", name, column)
        if word == "put":
            number = dealing.put(name, row)
            self.assertEqual(number, len(given) + 1)
            given.append(number)
            return ("put", name, number, row)
        if word in ("change", "drop") and rows:
            number = chance.choice(sorted(rows))
            if word == "change":
                dealing.change(name, number, row)
                return ("put", name, number, row)
            dealing.drop(name, number)
            return ("drop", name, number)
        return None

    def test_by_chance(self):
        clashes = 0
        for seed in range(40):
            chance = random.Random(seed)
            store = Store()
            kept, given, going = [], [], []
            for _ in range(120):
                turn = chance.random()
                if turn < 0.12 and len(going) < 5 or not going:
                    dealing = begin(store)
                    self.assertEqual(dealing.start(), len(kept))
                    going.append((dealing, len(kept), []))
                    continue
                place = chance.randrange(len(going))
                dealing, start, changes = going[place]
                seen = done_to({}, [change for row in kept[:start] for change in row] + changes)
                check_state(self, dealing.view(), seen)
                self.assertEqual(dealing.mine(), changes)
                if turn < 0.8:
                    change = self.one_deed(chance, dealing, seen, given)
                    if change:
                        changes.append(change)
                    continue
                going.pop(place)
                if turn < 0.84:
                    dealing.leave()
                    continue
                touched = {plain_key(change) for row in kept[start:] for change in row}
                if touched & {plain_key(change) for change in changes}:
                    clashes += 1
                    self.check_refused(Clash, dealing.keep)
                else:
                    if changes:
                        kept.append(changes)
                    self.assertEqual(dealing.keep(), len(kept))
                self.assertEqual(store.many(), len(kept))
            self.check_store(store, kept)
            self.assertEqual(store.greatest(), len(given))
            self.check_store(store_of(kept), kept)
        self.assertGreater(clashes, 20)


if __name__ == "__main__":
    unittest.main()
