"""tablestore.tables, by the points [3.1] and [3.5]."""

import copy
import random
import unittest

from tablestore.balance import index_from
from tablestore.tables import Table, is_table, new_table, numbers_of, with_index, with_row, without_row
from things import Cross, Yes, check_table, many_things, plain_table

PEOPLE = ("people", (("name", "text"), ("age", "number")))
EIGHT = ("wide", tuple([(letter, "number" if letter < "e" else "text") for letter in "abcdefgh"]))


def made_of(shape, rows, columns):
    """A Table of these rows, with indexes of these columns."""
    table = new_table(shape)
    for number, row in rows.items():
        table = with_row(table, number, row)
    for column in columns:
        table = with_index(table, column)
    return table


class Fields(unittest.TestCase):
    def test_the_fields_are_just_the_things_it_was_made_of(self):
        for shape, rows, indexes in ((PEOPLE, {}, {}), (None, [], "x"), (object(), Cross(), Yes())):
            table = Table(shape, rows, indexes)
            self.assertIs(table.shape, shape)
            self.assertIs(table.rows, rows)
            self.assertIs(table.indexes, indexes)

    def test_a_new_table(self):
        for shape in (PEOPLE, EIGHT):
            table = new_table(shape)
            self.assertIs(type(table), Table)
            check_table(self, table, shape, {}, [])
            self.assertEqual(numbers_of(table), [])


class Rows(unittest.TestCase):
    def test_a_row_comes_changes_and_goes(self):
        for columns in ([], ["name"], ["age"], ["name", "age"]):
            table = made_of(PEOPLE, {}, columns)
            rows = {}
            for number, row in ((7, ("bea", 3)), (2, ("ann", None)), (10 ** 9, (None, None)), (1, ("bea", 3)),
                                (7, ("bea", 4)), (2, ("ann", None)), (10 ** 9, ("", -5)), (1, (None, 3))):
                table = with_row(table, number, row)
                rows[number] = row
                check_table(self, table, PEOPLE, rows, columns)
                self.assertEqual(numbers_of(table), sorted(rows))
                self.assertIs(is_table(table), True)
            for number in (2, 10 ** 9, 7, 1):
                table = without_row(table, number)
                del rows[number]
                check_table(self, table, PEOPLE, rows, columns)
                self.assertIs(is_table(table), True)

    def test_rows_of_eight_columns_all_ordered(self):
        columns = list("abcdefgh")
        chance = random.Random(41)
        for ahead in (True, False):
            table = made_of(EIGHT, {}, columns if ahead else [])
            rows = {}
            for turn in range(120):
                number = chance.randint(1, 40)
                if number in rows and chance.random() < 0.4:
                    table = without_row(table, number)
                    del rows[number]
                else:
                    row = tuple([chance.choice([None, turn, 5]) for _ in range(4)])
                    row += tuple([chance.choice([None, "x", str(turn)]) for _ in range(4)])
                    table = with_row(table, number, row)
                    rows[number] = row
                check_table(self, table, EIGHT, rows, columns if ahead else [])
            for column in [] if ahead else columns:
                table = with_index(table, column)
            check_table(self, table, EIGHT, rows, columns)
            self.assertIs(is_table(table), True)

    def test_none_in_ordered_columns(self):
        table = made_of(PEOPLE, {number: (None, None) for number in range(1, 30)}, ["age", "name"])
        check_table(self, table, PEOPLE, {number: (None, None) for number in range(1, 30)}, ["age", "name"])
        table = with_row(table, 4, (None, 4))
        self.assertEqual(plain_table(table)[2]["age"][-1], (4, 4))

    def test_some_thousands_of_rows(self):
        rows = {number: (str(number % 50), number * 7919 % 4001) for number in range(1, 4001)}
        ahead = made_of(PEOPLE, {}, ["name", "age"])
        for number, row in rows.items():
            ahead = with_row(ahead, number, row)
        behind = made_of(PEOPLE, rows, ["name", "age"])
        for table in (ahead, behind):
            check_table(self, table, PEOPLE, rows, ["name", "age"])
            self.assertIs(is_table(table), True)

    def test_a_list_of_numbers_is_the_askers_own(self):
        table = made_of(PEOPLE, {3: ("a", 1), 1: ("b", 2)}, [])
        told = numbers_of(table)
        self.assertEqual(told, [1, 3])
        told.append(9)
        self.assertEqual(numbers_of(table), [1, 3])
        again = numbers_of(table)
        with_row(table, 2, ("c", 3))
        self.assertEqual(again, [1, 3])


class HandedIn(unittest.TestCase):
    def test_older_tables_stay_as_they_were(self):
        chance = random.Random(42)
        table = new_table(PEOPLE)
        older = []
        for turn in range(150):
            older.append((table, copy.deepcopy(plain_table(table))))
            numbers = numbers_of(table)
            if turn in (20, 70):
                table = with_index(table, "age" if turn == 20 else "name")
            elif numbers and chance.random() < 0.3:
                table = without_row(table, chance.choice(numbers))
            else:
                table = with_row(table, chance.randint(1, 60), (chance.choice("abc"), chance.choice([None, 1, turn])))
        for table, told in older:
            self.assertEqual(plain_table(table), told)


class IsTable(unittest.TestCase):
    def index_of(self, rows, place):
        return index_from([(row[place], number) for number, row in rows.items()])

    def test_sound_ones(self):
        rows = {number: (str(number % 3), number % 5) for number in range(1, 60)}
        for indexes in ({}, {"age": self.index_of(rows, 1)}, {"name": self.index_of(rows, 0),
                                                              "age": self.index_of(rows, 1)}):
            self.assertIs(is_table(Table(PEOPLE, rows, indexes)), True)
        self.assertIs(is_table(Table(PEOPLE, {}, {"age": ("leaf", ())})), True)

    def test_anything_else(self):
        for thing in many_things() + [PEOPLE, {"people": 1}, Table]:
            self.assertIs(is_table(thing), False)

    def test_made_of_anything(self):
        for thing in many_things():
            self.assertIs(is_table(Table(thing, {}, {})), False)
            self.assertIs(is_table(Table(PEOPLE, thing, {})), thing == {} if isinstance(thing, dict) else False)
            self.assertIs(is_table(Table(PEOPLE, {}, thing)), thing == {} if isinstance(thing, dict) else False)
            self.assertIs(is_table(Table(EIGHT, {1: thing}, {})), False)
            self.assertIs(is_table(Table(PEOPLE, {}, {"age": thing})), False)
            self.assertIs(is_table(Table(thing, thing, thing)), False)

    def test_shapes(self):
        for shape in (("people", ()), ("none", PEOPLE[1]), ["people", PEOPLE[1]], ("people", list(PEOPLE[1]))):
            self.assertIs(is_table(Table(shape, {}, {})), False)

    def test_numbers_of_rows(self):
        for number in (1, 2, 10 ** 9 - 1, 10 ** 9):
            self.assertIs(is_table(Table(PEOPLE, {number: ("a", 1)}, {})), True)
        for number in (0, -1, 10 ** 9 + 1, True, False, None, "1", 1.0, (), (1,)):
            self.assertIs(is_table(Table(PEOPLE, {number: ("a", 1)}, {})), False)
            self.assertIs(is_table(Table(PEOPLE, {5: ("a", 1), number: ("a", 1)}, {})), False)

    def test_rows_that_do_not_fit(self):
        for row in (("a",), ("a", 1, 1), ("a", "b"), (1, 1), ["a", 1], ("a", True), None, (), "ab"):
            self.assertIs(is_table(Table(PEOPLE, {1: ("a", 1), 2: row}, {})), False)

    def test_indexes_that_have_other_entries(self):
        rows = {number: (str(number % 3), number % 5) for number in range(1, 40)}
        entries = [(row[1], number) for number, row in rows.items()]
        self.assertIs(is_table(Table(PEOPLE, rows, {"age": index_from(entries)})), True)
        for wrong in (entries[1:], entries[:-1], entries + [(1, 40)], entries + [(2, 1)], entries[1:] + [(0, 1)],
                      [(None, 1)] + entries[1:], [], [(row[0], number) for number, row in rows.items()]):
            self.assertIs(is_table(Table(PEOPLE, rows, {"age": index_from(wrong)})), False)
        self.assertIs(is_table(Table(PEOPLE, {}, {"age": ("leaf", ((1, 1),))})), False)

    def test_indexes_that_are_none(self):
        rows = {1: ("a", 1), 2: ("b", 2)}
        for index in (("leaf", ((2, 2), (1, 1))), ("leaf", [(1, 1), (2, 2)]), ("leaf", ((True, 1), (2, 2))),
                      ("leaf", ((1, True), (2, 2))), ("branch", (((1, 1), ("leaf", ((1, 1), (2, 2)))),)),
                      [(1, 1), (2, 2)]):
            self.assertIs(is_table(Table(PEOPLE, rows, {"age": index})), False)
        self.assertIs(is_table(Table(PEOPLE, rows, {"age": ("leaf", ((1, 1), (2, 2)))})), True)

    def test_indexes_under_what_is_no_column(self):
        for column in ("people", "", "agee", None, 1, True, (), ("age",), ("age", "number"), "none"):
            self.assertIs(is_table(Table(PEOPLE, {}, {column: ("leaf", ())})), False)

    def test_what_is_handed_in_stays(self):
        rows = {2: ("b", 2), 1: ("a", 1)}
        table = Table(PEOPLE, rows, {"age": index_from([(1, 1), (2, 2)])})
        is_table(table)
        self.assertIs(table.rows, rows)
        self.assertEqual(list(rows.items()), [(2, ("b", 2)), (1, ("a", 1))])


if __name__ == "__main__":
    unittest.main()
