"""tablestore.states, by the points [3.2], [3.3], [3.4] and [3.5]."""

import copy
import random
import unittest

from tablestore.errors import (
    BadChange, BadRow, BadShape, IndexThere, NoColumn, NoRow, NoTable, TableError, TableThere)
from tablestore.states import all_changed, changed, is_state, key_of
from tablestore.tables import Table, new_table, with_row
from things import Cross, Yes, check_state, many_things, no_values, plain_changed, plain_state

PEOPLE = ("people", (("name", "text"), ("age", "number")))
PETS = ("pets", (("pets", "text"), ("owner", "number"), ("kind", "text")))
EIGHT = ("wide", tuple([(letter, "number") for letter in "abcdefgh"]))

BEGUN = [
    ("table", PEOPLE), ("table", PETS), ("put", "people", 1, ("ann", 31)), ("put", "people", 2, ("bea", None)),
    ("index", "people", "age"), ("put", "pets", 2, ("rex", 1, "dog")),
]

BAD_SHAPES = [
    ("people",), ("people", ()), ("none", PEOPLE[1]), ["people", PEOPLE[1]], ("people", list(PEOPLE[1])),
    ("people", PEOPLE[1] + PEOPLE[1]), ("toolongname", PEOPLE[1]), ("people", (("age", "none"),)), "people", None, 7,
    (),
]


def chance_change(chance, wanted):
    """A change that can be done to a dict of (shape, rows, columns)."""
    shapes = [PEOPLE, PETS, EIGHT]
    while True:
        word = chance.choice(["table", "index", "put", "put", "put", "put", "drop", "drop"])
        shape = chance.choice(shapes)
        name = shape[0]
        if word == "table" and name not in wanted:
            return ("table", shape)
        if name not in wanted:
            continue
        rows, columns = wanted[name][1:]
        column = chance.choice(shape[1])[0]
        if word == "index" and column not in columns and chance.random() < 0.3:
            return ("index", name, column)
        if word == "put":
            row = tuple([chance.choice([None, chance.choice("abc") if kind == "text" else chance.randint(-3, 3)])
                         for _, kind in shape[1]])
            return ("put", name, chance.choice([1, 10 ** 9, chance.randint(1, 30)]), row)
        if word == "drop" and rows:
            return ("drop", name, chance.choice(sorted(rows)))


class Changes(unittest.TestCase):
    def test_written_out(self):
        state = all_changed({}, BEGUN)
        check_state(self, state, {
            "people": (PEOPLE, {1: ("ann", 31), 2: ("bea", None)}, ["age"]),
            "pets": (PETS, {2: ("rex", 1, "dog")}, []),
        })
        state = changed(state, ("put", "people", 1, ("ann", 32)))
        state = changed(state, ("drop", "people", 2))
        state = changed(state, ("index", "people", "name"))
        check_state(self, state, {
            "people": (PEOPLE, {1: ("ann", 32)}, ["age", "name"]), "pets": (PETS, {2: ("rex", 1, "dog")}, []),
        })
        self.assertEqual(plain_state(state)["people"][2], {"age": [(32, 1)], "name": [("ann", 1)]})

    def test_no_changes(self):
        self.assertEqual(all_changed({}, []), {})
        state = all_changed({}, BEGUN)
        self.assertEqual(plain_state(all_changed(state, [])), plain_state(state))

    def test_rows_of_changes_against_plain_dicts(self):
        for seed in range(6):
            chance = random.Random(seed)
            wanted = {}
            state = {}
            changes = []
            for _ in range(150):
                change = chance_change(chance, wanted)
                changes.append(change)
                wanted = plain_changed(wanted, change)
                state = changed(state, change)
                check_state(self, state, wanted)
                self.assertIs(is_state(state), True)
            check_state(self, all_changed({}, changes), wanted)

    def test_a_row_put_over_another_one_with_indexes_there(self):
        state = all_changed({}, [("table", EIGHT)] + [("index", "wide", column) for column in "abcdefgh"])
        for row in ((1,) * 8, (None,) * 8, (2, 1, None, 2, 2, 2, 2, 2), (1,) * 8):
            state = changed(state, ("put", "wide", 5, row))
            check_state(self, state, {"wide": (EIGHT, {5: row}, list("abcdefgh"))})
        state = changed(state, ("drop", "wide", 5))
        check_state(self, state, {"wide": (EIGHT, {}, list("abcdefgh"))})

    def test_numbers_at_the_bounds(self):
        state = all_changed({}, BEGUN)
        for number in (1, 10 ** 9):
            after = changed(state, ("put", "people", number, (None, 5)))
            self.assertEqual(after["people"].rows[number], (None, 5))
            self.assertNotIn(number, changed(after, ("drop", "people", number))["people"].rows)

    def test_other_tables_and_rows_stay(self):
        state = all_changed({}, BEGUN)
        before = plain_state(state)
        after = plain_state(changed(state, ("put", "people", 9, ("cid", 1))))
        self.assertEqual(after["pets"], before["pets"])
        self.assertEqual(after["people"][1], {**before["people"][1], 9: ("cid", 1)})
        after = plain_state(changed(state, ("drop", "people", 1)))
        self.assertEqual(after["pets"], before["pets"])
        self.assertEqual(after["people"][1], {2: ("bea", None)})

    def test_more_rows_than_a_table_is_told_to_have_are_not_refused(self):
        changes = [("table", PEOPLE)] + [("put", "people", number, ("x", number)) for number in range(1, 4011)]
        state = all_changed({}, changes)
        self.assertEqual(len(state["people"].rows), 4010)
        self.assertIs(is_state(state), True)


class Refused(unittest.TestCase):
    def setUp(self):
        self.state = all_changed({}, BEGUN)

    def check(self, kind, *changes):
        told = copy.deepcopy(plain_state(self.state))
        for change in changes:
            with self.assertRaises(TableError) as caught:
                changed(self.state, change)
            self.assertIs(type(caught.exception), kind, repr(change)[:80])
            self.assertEqual(plain_state(self.state), told)
            with self.assertRaises(kind):
                all_changed(self.state, [("put", "people", 5, ("x", 1)), change, ("drop", "people", 99)])
            self.assertEqual(plain_state(self.state), told)

    def test_what_is_no_change(self):
        self.check(BadChange, *[thing for thing in many_things()])
        self.check(
            BadChange, ("table",), ("table", PEOPLE, 1), ("index", "people"), ("index", "people", "name", 1),
            ("index",),
            ("put", "people", 1), ("put", "people", 1, ("a", 1), 1), ("put",), ("drop", "people"), ("drop",),
            ("drop", "people", 1, 1), ("Table", PEOPLE), ("tables", PEOPLE), ("take", "people", 1), ("", 1), (None, 1),
            (1, 2), (("table",), PEOPLE), (["table"], PEOPLE), ["table", PEOPLE], ["drop", "people", 1],
            (Yes(), PEOPLE),
            (Cross(), "people", 1), (True, "people", 1), ("row", "people", 1), "drop", ("put ", "people", 1, ("a", 1)))

    def test_the_form_comes_first(self):
        self.check(BadChange, ("put", "nobody", 0), ("table", None, None), ("drop", None), ("index", None))

    def test_tables(self):
        self.check(BadShape, *[("table", shape) for shape in BAD_SHAPES + no_values()])
        self.check(TableThere, ("table", PEOPLE), ("table", ("people", (("x", "text"),))), ("table", PETS))

    def test_indexes(self):
        no_tables = ["nobody", "", "People", "none", None, 1, True, (), ["people"], ("people",), PEOPLE] + no_values()
        self.check(NoTable, *[("index", name, "name") for name in no_tables])
        self.check(NoTable, *[("index", "nobody", column) for column in (None, "none", "age")])
        no_columns = ["", "people", "kind", "Age", None, 0, 1, True, (), ["age"], ("age",),
                      ("age", "number")] + no_values()
        self.check(NoColumn, *[("index", "people", column) for column in no_columns])
        self.check(IndexThere, ("index", "people", "age"))
        # The same column's name in another table, and one that is the table's.
        changed(self.state, ("index", "pets", "pets"))

    def test_puts(self):
        self.check(NoTable, *[("put", name, 1, ("a", 1)) for name in ["nobody", None, 1, (), ["people"]] + no_values()])
        numbers = [0, -1, 10 ** 9 + 1, 10 ** 30, True, False, None, "1", (), [1], (1,)] + no_values()
        self.check(BadChange, *[("put", "people", number, ("a", 1)) for number in numbers])
        rows = [("a",), ("a", 1, 1), (1, "a"), ["a", 1], ("a", True), ("a", 10 ** 18), ("x" * 41, 1), None, (), "ab", 7]
        self.check(BadRow, *[("put", "people", 1, row) for row in rows + no_values()])
        self.check(BadRow, *[("put", "people", 77, row) for row in rows + no_values()])

    def test_drops(self):
        self.check(NoTable, *[("drop", name, 1) for name in ["nobody", None, 1, (), ["people"]] + no_values()])
        numbers = [0, -1, 3, 10 ** 9, 10 ** 9 + 1, True, False, 1.0, None, "1", (), [1], (1,)] + no_values()
        self.check(NoRow, *[("drop", "people", number) for number in numbers])
        self.check(NoRow, ("drop", "pets", 1))

    def test_the_order_where_two_are_due(self):
        self.check(BadShape, ("table", ("people", ())), ("table", ("people", [("age", "number")])))
        self.check(NoTable, ("put", "nobody", 0, None), ("put", "nobody", 1, None), ("put", None, True, ("a", 1)))
        self.check(BadChange, ("put", "people", 0, None), ("put", "people", True, ["a", 1]),
                   ("put", "people", None, ()))
        self.check(NoTable, ("drop", "nobody", 0), ("drop", None, True), ("index", 5, 5))

    def test_the_first_of_several_that_are_refused(self):
        for changes, kind in (
            ([("drop", "people", 9), ("table", PEOPLE)], NoRow), ([("table", PEOPLE), ("drop", "people", 9)],
                                                                  TableThere),
            ([("put", "people", 9, ("x", 1)), ("drop", "people", 9), ("drop", "people", 9), None], NoRow),
            ([("drop", "people", 1), None], BadChange),
        ):
            with self.assertRaises(TableError) as caught:
                all_changed(self.state, changes)
            self.assertIs(type(caught.exception), kind)

    def test_on_the_first_state(self):
        self.state = {}
        for change in (("index", "people", "age"), ("put", "people", 1, ("a", 1)), ("drop", "people", 1)):
            with self.assertRaises(NoTable):
                changed({}, change)


class HandedIn(unittest.TestCase):
    def test_older_states_stay_as_they_were(self):
        chance = random.Random(51)
        wanted = {}
        state = {}
        older = []
        for _ in range(200):
            older.append((state, copy.deepcopy(plain_state(state))))
            change = chance_change(chance, wanted)
            wanted = plain_changed(wanted, change)
            state = changed(state, change)
        for state, told in older:
            self.assertEqual(plain_state(state), told)

    def test_lists_of_changes_stay_and_may_be_changed_behind_the_call(self):
        changes = list(BEGUN)
        state = all_changed({}, changes)
        self.assertEqual(changes, BEGUN)
        told = copy.deepcopy(plain_state(state))
        changes.clear()
        self.assertEqual(plain_state(state), told)

    def test_the_first_state_stays_empty(self):
        first = {}
        all_changed(first, BEGUN)
        self.assertEqual(first, {})


class IsState(unittest.TestCase):
    def test_sound_ones(self):
        self.assertIs(is_state({}), True)
        self.assertIs(is_state({"people": new_table(PEOPLE)}), True)
        self.assertIs(is_state(all_changed({}, BEGUN)), True)

    def test_a_table_under_another_name(self):
        self.assertIs(is_state({"pets": new_table(PEOPLE)}), False)
        self.assertIs(is_state({"people": new_table(PEOPLE), "pets": new_table(PEOPLE)}), False)

    def test_a_table_that_is_not_sound(self):
        good = new_table(PEOPLE)
        for bad in (Table(PEOPLE, {0: ("a", 1)}, {}), Table(PEOPLE, {1: ("a", 1)}, {"age": ("leaf", ())}),
                    Table(PEOPLE, None, {}), Table(None, {}, {}), Table(("pets", ()), {}, {})):
            self.assertIs(is_state({"people": bad}), False)
            self.assertIs(is_state({"pets": new_table(PETS), "people": bad}), False)
            self.assertIs(is_state({"people": good, "pets": bad}), False)

    def test_what_is_no_state(self):
        for thing in many_things():
            self.assertIs(is_state(thing), isinstance(thing, dict) and thing == {})
            self.assertIs(is_state({"people": thing}), False)
        for name in ("none", "", "People", None, 1, ("people",)):
            self.assertIs(is_state({name: new_table(PEOPLE)}), False)
        self.assertIs(is_state({"none": Table(("none", PEOPLE[1]), {}, {})}), False)

    def test_a_row_that_makes_it_unsound(self):
        self.assertIs(is_state({"people": with_row(new_table(PEOPLE), 1, ("a", "b"))}), False)


class KeyOf(unittest.TestCase):
    def test_each_change(self):
        self.assertEqual(key_of(("table", PEOPLE)), ("table", "people"))
        self.assertEqual(key_of(("index", "people", "age")), ("index", "people", "age"))
        self.assertEqual(key_of(("put", "people", 7, ("a", 1))), ("row", "people", 7))
        self.assertEqual(key_of(("drop", "people", 7)), ("row", "people", 7))


if __name__ == "__main__":
    unittest.main()
