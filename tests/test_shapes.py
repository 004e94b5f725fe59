"""tablestore.shapes, by the points [1.4], [1.5] and [1.6]."""

import itertools
import string
import unittest

from tablestore.shapes import column_place, fits, is_name, is_shape
from things import Cross, Yes, no_values

BOUND = 10 ** 18
NO_NAMES = ["and", "by", "down", "from", "none", "not", "or", "order", "show", "take", "where"]
EIGHT = tuple([(letter, "number" if letter < "e" else "text") for letter in "abcdefgh"])

PEOPLE = ("people", (("name", "text"), ("age", "number"), ("people", "text")))


class IsName(unittest.TestCase):
    def test_names(self):
        names = ["people", "zz", "abcdefgh", "zzzzzzzz", "table", "index", "begin", "stop", "ask", "number", "text"]
        for name in names + list(string.ascii_lowercase):
            self.assertIs(is_name(name), True, name)

    def test_lengths(self):
        self.assertIs(is_name(""), False)
        for many in range(1, 9):
            self.assertIs(is_name("n" * many), True, many)
        for many in (9, 10, 40, 10000):
            self.assertIs(is_name("n" * many), False, many)

    def test_words_that_are_none(self):
        for word in NO_NAMES:
            self.assertIs(is_name(word), False, word)
            self.assertIs(is_name(word + "x"), True, word)
            self.assertIs(is_name("x" + word), True, word)
        for part in ("an", "b", "dow", "fro", "non", "no", "o", "orde", "sho", "tak", "wher"):
            self.assertIs(is_name(part), True, part)

    def test_words_of_one_and_two_letters(self):
        for pair in itertools.product(string.ascii_lowercase, repeat=2):
            word = "".join(pair)
            self.assertIs(is_name(word), word not in ("by", "or"), word)

    def test_other_signs(self):
        for code in list(range(0, 700)) + [0x430, 0x661, 0xd800, 0xff41]:
            sign = chr(code)
            wanted = sign in string.ascii_lowercase
            for text in (sign, "a" + sign, sign + "a", "a" + sign + "a"):
                self.assertIs(is_name(text), wanted, text)
        for text in ("And", "NONE", "Name", "a b", " a", "a ", "a1", "a_b", "a.b", "a\n", "\u00df", "\ufb01"):
            self.assertIs(is_name(text), False, text)

    def test_anything_else_is_none(self):
        for thing in no_values() + [None, 0, 1, (), ("a",), ("abc",)]:
            self.assertIs(is_name(thing), False)


class IsShape(unittest.TestCase):
    def test_shapes(self):
        self.assertIs(is_shape(PEOPLE), True)
        self.assertIs(is_shape(("t", (("a", "number"),))), True)
        self.assertIs(is_shape(("t", (("a", "text"),))), True)

    def test_how_many_columns(self):
        for many in range(1, 9):
            self.assertIs(is_shape(("t", EIGHT[:many])), True, many)
        self.assertIs(is_shape(("t", ())), False)
        self.assertIs(is_shape(("t", EIGHT + (("i", "text"),))), False)
        self.assertIs(is_shape(("t", EIGHT + EIGHT)), False)

    def test_a_column_called_as_the_table(self):
        self.assertIs(is_shape(("t", (("t", "number"),))), True)
        self.assertIs(is_shape(("t", (("a", "number"), ("t", "text")))), True)

    def test_two_columns_of_one_name(self):
        self.assertIs(is_shape(("t", (("a", "number"), ("a", "number")))), False)
        self.assertIs(is_shape(("t", (("a", "number"), ("a", "text")))), False)
        for first, second in itertools.combinations(range(8), 2):
            columns = list(EIGHT)
            columns[second] = (columns[first][0], "text")
            self.assertIs(is_shape(("t", tuple(columns))), False)

    def test_names_that_are_none(self):
        for word in NO_NAMES + ["", "A", "a1", "abcdefghi", "a b", None, 1, ("a",), b"a", Yes(), Cross()]:
            self.assertIs(is_shape((word, (("a", "number"),))), False)
            self.assertIs(is_shape(("t", ((word, "number"),))), False)
            self.assertIs(is_shape(("t", (("a", "number"), (word, "text")))), False)

    def test_kinds_that_are_none(self):
        kinds = ["none", "", "Number", "numbers", "texts", "t", "tex", "whole", None, 0, 1, str, int, (), ("text",)]
        for kind in kinds + [Yes(), Cross(), ["text"], b"text"]:
            self.assertIs(is_shape(("t", (("a", kind),))), False)
            self.assertIs(is_shape(("t", (("a", "text"), ("b", kind)))), False)

    def test_other_forms(self):
        column = ("a", "number")
        for thing in (
            (), ("t",), ("t", (column,), ()), ("t", (column,), None), ("t", column), ("t", ("a",)), ("t", "ab"),
            ("t", [column]), ["t", (column,)], ("t", (["a", "number"],)), ("t", (("a",),)), ("t", ((),)),
            ("t", (("a", "number", "text"),)), ("t", {"a": "number"}), ("t", None), ("t", 1), ("t", Yes()),
            ("t", Cross()), ("t", (Yes(),)), ("t", (Cross(),)), ("t", (None,)), ("t", ("ab",)), ("t", (1,)),
            ((column,), "t"), "t", "ab", (("t", (column,)),),
        ):
            self.assertIs(is_shape(thing), False)

    def test_anything_else_is_none(self):
        for thing in no_values() + [None, 0, 1, "", "abc"]:
            self.assertIs(is_shape(thing), False)
            self.assertIs(is_shape((thing, thing)), False)
            self.assertIs(is_shape(("t", thing)), False)
            self.assertIs(is_shape(("t", (thing,))), False)
            self.assertIs(is_shape(("t", ((thing, thing),))), False)

    def test_what_is_handed_in_stays(self):
        handed = ["t", [["a", "number"]]]
        is_shape(handed)
        self.assertEqual(handed, ["t", [["a", "number"]]])


class ColumnPlace(unittest.TestCase):
    def test_places(self):
        for place, column in enumerate(("name", "age", "people")):
            self.assertEqual(column_place(PEOPLE, column), place)
        for place, column in enumerate("abcdefgh"):
            self.assertEqual(column_place(("t", EIGHT), column), place)
        self.assertEqual(column_place(("t", (("a", "text"), ("t", "text"))), "t"), 1)

    def test_no_such_column(self):
        for column in ("", "nam", "names", "Name", "t", "text", "number", "none", "a b", "\u00e4", "x" * 5000):
            self.assertIsNone(column_place(PEOPLE, column))
        self.assertIsNone(column_place(("t", EIGHT), "t"))


class Fits(unittest.TestCase):
    def test_rows_that_fit(self):
        for row in (("ann", 31, ""), ("", 0, "%"), ("~" * 40, 1 - BOUND, " "), ('"', BOUND - 1, "none")):
            self.assertIs(fits(PEOPLE, row), True, row)
        self.assertIs(fits(("t", EIGHT), (1, 2, 3, 4, "e", "f", "g", "h")), True)

    def test_none_stands_for_any_kind(self):
        for row in itertools.product((None, "a"), (None, 1), (None, "b")):
            self.assertIs(fits(PEOPLE, row), True, row)
        self.assertIs(fits(("t", EIGHT), (None,) * 8), True)

    def test_how_many_values(self):
        for many in range(0, 10):
            self.assertIs(fits(PEOPLE, (None,) * many), many == 3, many)
            self.assertIs(fits(("t", EIGHT), (None,) * many), many == 8, many)
            self.assertIs(fits(("t", (("a", "text"),)), (None,) * many), many == 1, many)

    def test_values_of_the_other_kind(self):
        for row in ((1, 1, "a"), ("a", "1", "a"), ("a", 1, 0), ("a", "", "a"), (1, "a", 1)):
            self.assertIs(fits(PEOPLE, row), False, row)

    def test_what_is_no_value(self):
        number = ("t", (("a", "number"),))
        text = ("t", (("a", "text"),))
        for thing in no_values() + [BOUND, -BOUND, 10 ** 5000, "x" * 41, "\n", "\x7f", "\u00e4", (), (1,), ("a",)]:
            self.assertIs(fits(number, (thing,)), False)
            self.assertIs(fits(text, (thing,)), False)
            self.assertIs(fits(PEOPLE, ("a", 1, thing)), False)
            self.assertIs(fits(PEOPLE, (thing, None, None)), False)

    def test_what_is_no_tuple(self):
        for thing in no_values() + [None, 0, 1, "", "a", "abc", ["ann", 31, ""], {"ann": 1, "b": 2, "c": 3}]:
            self.assertIs(fits(PEOPLE, thing), False)
            self.assertIs(fits(("t", (("a", "text"),)), thing), False)
            self.assertIs(fits(("t", (("a", "text"), ("b", "text"))), thing), False)

    def test_what_is_handed_in_stays(self):
        handed = ["ann", 31, ""]
        fits(PEOPLE, handed)
        self.assertEqual(handed, ["ann", 31, ""])


if __name__ == "__main__":
    unittest.main()
