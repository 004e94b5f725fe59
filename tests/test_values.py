"""tablestore.values, by the points [1.1], [1.2] and [1.3]."""

import itertools
import re
import unittest

from tablestore.errors import BadValue, TableError
from tablestore.values import compare, is_value, kind_of, read_value, read_values, written
from things import no_values

SIGNS = [chr(code) for code in range(ord(" "), ord("~") + 1)]
BOUND = 10 ** 18

# Each is ahead of all behind it.
IN_ORDER = [
    None, -BOUND + 1, -BOUND + 2, -100, -11, -10, -9, -2, -1, 0, 1, 2, 9, 10, 11, 99, 100,
    BOUND - 2, BOUND - 1,
    "", " ", "  ", " a", "!", '"', '""', '"a', "%", "%%", "-1", "0", "00", "1", "10", "2", "A", "Z", "a",
    "a ", "aa", "ab", "a" + "~" * 39, "b", "none", "z" * 39, "z" * 40, "~", "~ ", "~" * 39, "~" * 40,
]

WRITTEN = [
    (None, "none"),
    (0, "0"), (7, "7"), (-7, "-7"), (10, "10"), (-10, "-10"), (1000, "1000"),
    (BOUND - 1, "9" * 18), (1 - BOUND, "-" + "9" * 18),
    ("", '""'), (" ", '" "'), ("~", '"~"'), ("none", '"none"'), ("12", '"12"'), ("a b", '"a b"'),
    ('"', '""""'), ('""', '""""""'), ('a"b', '"a""b"'), ('" "', '""" """'), ('"a', '"""a"'), ('a"', '"a"""'),
    ("%", '"%"'), ("%d %s %%", '"%d %s %%"'), ("\\n", '"\\n"'), ("'", '"\'"'),
    ("x" * 40, '"' + "x" * 40 + '"'), ('"' * 40, '"' * 82),
]

# Texts that write no value, neither one alone nor in a row.
NEVER = [
    " ", "  ", "-", "--1", "- 1", "-0", "00", "01", "-01", "000", "007", "-00", "0-", "1-", "+1", "+0",
    "1.0", "1.", "1e3", "0x1", "1_0", "1,2", "None", "NONE", "nonE", "nonenone", "none,", "-none", "true", "True",
    "a", "abc", "1a", "a1", "'a'", "=", "1" + "0" * 18, "-1" + "0" * 18, "9" * 19, "9" * 6000, "-" + "9" * 6000,
    "0" * 19, "0" * 6000, "\u0661", "\u00b2", "1\u0661", "\uff11", "1\n", "\n", "none\n", "\t1", "1\t", "\u00a01",
    '"', '"a', 'a"', '"""', '"a""', '"a"b"', '"a"b', '"a"1', 'a"b"', '1"a"', 'none""', '""none', '"a""b', '"a"""b"',
    '"a" "', '"""""', '" ', '"a"\n', '"\n"', '"\t"', '"\x7f"', '"\x1f"', '"\x00"', '"\u00e4"', '"\u20ac"', '"\ud800"',
    '"' + "x" * 41 + '"', '"' + '""' * 41 + '"', '"' + "x" * 5000 + '"', '"' + "x" * 40, "\u201ca\u201d",
]

# Rows with a blank too many, or a fault in one of their values.
BAD_ROWS = [
    " 1", "1 ", "1  2", " none", "none ", '"a"  "b"', ' "a"', '"a" ', "1 2 ", " 1 2", "1\t2", "1\n2", "1,2", "1, 2",
    "1 01", "-0 1", "1 -0", "1 -", "1 a", "none None", '"a""b" "', '"a" "b', '"a"" "b"', '"a""b" c"', '"a"b "c"',
    '"a"1', '1"a"', '"a" "b"c', "1 " + "9" * 19, '"a" "' + "x" * 41 + '"', '1 "\n"', '1 "\u00e4" 2', "1 " * 9,
]

# An account of [1.3] other than the program's.
ONE = r'(?:none|0|-?[1-9][0-9]{0,17}|"(?:[ !#-~]|""){0,40}")'


def short_texts(signs, most):
    for many in range(most + 1):
        for picked in itertools.product(signs, repeat=many):
            yield "".join(picked)


def row_text(values):
    return " ".join([written(value) for value in values])


class IsValue(unittest.TestCase):
    def test_values_of_each_kind(self):
        for value in IN_ORDER:
            self.assertIs(is_value(value), True, value)

    def test_numbers_at_the_bounds(self):
        for number in (BOUND - 1, BOUND - 2, -BOUND + 1, -BOUND + 2):
            self.assertIs(is_value(number), True, number)
        for number in (BOUND, BOUND + 1, -BOUND, -BOUND - 1, 10 ** 19, -10 ** 5000, 10 ** 5000, 2 ** 64):
            self.assertIs(is_value(number), False)

    def test_truths_are_none(self):
        self.assertIs(is_value(True), False)
        self.assertIs(is_value(False), False)

    def test_lengths_of_texts(self):
        for many in (0, 1, 39, 40):
            self.assertIs(is_value("x" * many), True, many)
        for many in (41, 42, 80, 10000):
            self.assertIs(is_value("x" * many), False, many)

    def test_signs_of_texts(self):
        for sign in SIGNS:
            self.assertIs(is_value(sign), True, sign)
            self.assertIs(is_value("ab" + sign + "c"), True, sign)
        for code in list(range(0, 32)) + list(range(127, 700)) + [0x661, 0x2028, 0xd800, 0xff11, 0x1f600]:
            self.assertIs(is_value(chr(code)), False, code)
            self.assertIs(is_value("ab" + chr(code)), False, code)
            self.assertIs(is_value(chr(code) + "ab"), False, code)

    def test_anything_else_is_none(self):
        for thing in no_values() + [(), (1,), ("a", 1), (None,)]:
            self.assertIs(is_value(thing), False)

    def test_what_is_handed_in_stays(self):
        handed = [1, "a", [None]]
        is_value(handed)
        self.assertEqual(handed, [1, "a", [None]])


class KindOf(unittest.TestCase):
    def test_kinds(self):
        self.assertEqual(kind_of(None), "none")
        for number in (0, 1, -1, BOUND - 1, 1 - BOUND):
            self.assertEqual(kind_of(number), "number")
        for text in ("", " ", "1", "none", "number", "~" * 40):
            self.assertEqual(kind_of(text), "text")


class Compare(unittest.TestCase):
    def check_order(self, values):
        for one, first in enumerate(values):
            for other, second in enumerate(values):
                told = compare(first, second)
                self.assertEqual(told, (one > other) - (one < other), (first, second))
                self.assertIs(type(told), int)

    def test_values_of_all_kinds_both_ways_round(self):
        self.check_order(IN_ORDER)

    def test_all_signs(self):
        self.check_order(SIGNS)
        self.check_order(["a" + sign + "a" for sign in SIGNS])

    def test_a_beginning_is_ahead_of_the_longer_text(self):
        self.check_order(["ab"[:many] for many in range(3)])
        self.check_order(["~" * many for many in range(41)])

    def test_the_same_value_made_twice(self):
        self.assertEqual(compare("a" * 20, "".join(["a"] * 20)), 0)
        self.assertEqual(compare(10 ** 17, int("1" + "0" * 17)), 0)
        self.assertEqual(compare(None, None), 0)


class Written(unittest.TestCase):
    def test_as_told(self):
        for value, text in WRITTEN:
            self.assertEqual(written(value), text)

    def test_each_sign(self):
        for sign in SIGNS:
            self.assertEqual(written(sign), '""""' if sign == '"' else '"' + sign + '"')


class Reading(unittest.TestCase):
    def check_refused(self, reading, text):
        with self.subTest(text[:60]), self.assertRaises(BadValue) as caught:
            reading(text)
        self.assertIsInstance(caught.exception, TableError)
        self.assertIsInstance(caught.exception, ValueError)

    def check_same(self, told, value):
        self.assertEqual(told, value)
        self.assertIs(type(told), type(value))

    def check_short_texts(self, reading, pattern):
        """That reading takes just the short texts that the pattern tells, each to what it writes."""
        whole = re.compile(pattern)
        for text in short_texts('"-01 a', 6):
            try:
                told = reading(text)
            except BadValue:
                self.assertIsNone(whole.fullmatch(text), text)
            else:
                self.assertIsNotNone(whole.fullmatch(text), text)
                self.assertEqual(row_text(told if isinstance(told, list) else [told]), text)


class ReadValue(Reading):
    def test_as_told(self):
        for value, text in WRITTEN:
            self.check_same(read_value(text), value)

    def test_what_is_written_is_read_to_the_same(self):
        for value in IN_ORDER + SIGNS + list(range(-1200, 1200)):
            self.check_same(read_value(written(value)), value)

    def test_numbers_of_each_length(self):
        for many in range(1, 19):
            for number in (10 ** (many - 1), 10 ** many - 1):
                self.check_same(read_value(str(number)), number)
                self.check_same(read_value("-" + str(number)), -number)

    def test_other_texts_are_refused(self):
        for text in [""] + NEVER + BAD_ROWS + ["1 2", 'none "a"', '"a" "b"']:
            self.check_refused(read_value, text)

    def test_signs_that_are_no_figures(self):
        for sign in [chr(code) for code in range(700) if chr(code) not in "0123456789"]:
            for text in (sign, "1" + sign, "1" + sign + "1", "-" + sign, "-1" + sign):
                self.check_refused(read_value, text)
                if sign != " ":
                    self.check_refused(read_values, "none " + text)

    def test_all_short_texts(self):
        self.check_short_texts(read_value, ONE)


class ReadValues(Reading):
    def test_as_told(self):
        for value, text in WRITTEN:
            self.assertEqual(read_values(text), [value])
        self.assertEqual(read_values("none 12 -3 0"), [None, 12, -3, 0])
        self.assertEqual(read_values('"a b" "" " " "c""" 1'), ["a b", "", " ", 'c"', 1])
        self.assertEqual(read_values('""" """ none """"'), ['" "', None, '"'])
        self.assertEqual(read_values('"none" none "1" 1'), ["none", None, "1", 1])

    def test_no_values(self):
        self.assertEqual(read_values(""), [])

    def test_what_is_written_is_read_to_the_same(self):
        values = IN_ORDER + SIGNS
        for many in (1, 2, 3, 8, 20, len(values)):
            for start in range(0, len(values), many):
                row = values[start:start + many]
                told = read_values(row_text(row))
                self.assertEqual(told, row)
                self.assertEqual([type(value) for value in told], [type(value) for value in row])
        for first, second in itertools.product(values, repeat=2):
            self.assertEqual(read_values(written(first) + " " + written(second)), [first, second])

    def test_numbers_at_the_bounds(self):
        self.assertEqual(read_values("9" * 18 + " -" + "9" * 18), [BOUND - 1, 1 - BOUND])

    def test_other_texts_are_refused(self):
        for text in NEVER + BAD_ROWS:
            self.check_refused(read_values, text)

    def test_all_short_texts(self):
        self.check_short_texts(read_values, f"(?:{ONE}(?: {ONE})*)?")

    def test_a_list_that_is_told_is_the_askers_own(self):
        for line in ("", "1 2"):
            first = read_values(line)
            kept = list(first)
            second = read_values(line)
            second.append("more")
            self.assertEqual(first, kept)
            self.assertEqual(read_values(line), kept)


if __name__ == "__main__":
    unittest.main()
