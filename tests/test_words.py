"""tablestore.words, by the point [6.1]."""

import itertools
import re
import string
import unittest

from tablestore.words import word_at

KEYS = ["and", "by", "down", "from", "none", "not", "or", "order", "show", "take", "where"]
SIGNS = ["=", "<>", "<=", "<", ">=", ">", ",", ".", "(", ")"]
BOUND = 10 ** 18

# Each with the kind and the value that it is a word of, however it stands in a text.
WORDS = (
    [(key, "key", key) for key in KEYS]
    + [(name, "name", name) for name in ["a", "z", "people", "abcdefgh", "ands", "nott", "an", "zzzzzzzz", "begin",
                                         "tables"]]
    + [(str(number), "number", number) for number in
       [0, 1, 9, 10, 100, -1, -9, -10, 12345, BOUND - 1, 1 - BOUND, BOUND // 10, -BOUND // 10 + 1]]
    + [('""', "text", ""), ('"a"', "text", "a"), ('" "', "text", " "), ('""""', "text", '"'), ('"a""b"', "text", 'a"b'),
       ('""""""', "text", '""'), ('"""a"', "text", '"a'), ('"a"""', "text", 'a"'), ('"none"', "text", "none"),
       ('"= <> , ( ) . - 1 A !"', "text", "= <> , ( ) . - 1 A !"), ('"' + "x" * 40 + '"', "text", "x" * 40),
       ('"' + '""' * 40 + '"', "text", '"' * 40), ('"~"', "text", "~")]
    + [(sign, "sign", sign) for sign in SIGNS]
)

# What begins no word, at its first sign.
NO_WORDS = [
    "abcdefghi", "aaaaaaaaaaaaaaaaaaaa", "wherewhere", "-", "--1", "-a", "- 1", "-0", "-00", "-01", "00", "01", "007",
    "000",
    str(BOUND), str(-BOUND), "9" * 19, "1" + "0" * 30, "9" * 5000, "-" + "9" * 5000, "0" * 5000, '"', '"a', '"""',
    '"a""',
    '"a"""" ', '"' + "x" * 41 + '"', '"' + '""' * 41 + '"', '"\n"', '"\t"', '"\x7f"', '"\u00e4"', "A", "Name", "Z",
    "!", "\n",
    "\t", "#", "$", "&", "'", "*", "+", "/", ":", ";", "?", "@", "[", "\\", "]", "^", "_", "`", "{", "|", "}", "~",
    "\u00e4",
    "\u0661", "\u00b2", "\x00", "\u00a0", "\r", "\ud800", "!=", "\u00aa",
]


class WordAt(unittest.TestCase):
    def check(self, text, place, wanted):
        told = word_at(text, place)
        self.assertIs(type(told), tuple)
        self.assertEqual(repr(told), repr(wanted), (text[:60], place))

    def test_each_word_alone_and_with_blanks(self):
        for written, kind, value in WORDS:
            for ahead, behind in itertools.product(("", " ", "    "), repeat=2):
                text = ahead + written + behind
                start = len(ahead)
                for place in range(start + 1):
                    self.check(text, place, (kind, value, start, start + len(written)))

    def test_at_each_place_of_a_text(self):
        for ahead in ("x", "from a", '"q" ', "1", "((", "!", "\n", "=="):
            for written, kind, value in WORDS:
                text = ahead + written
                self.check(text, len(ahead), (kind, value, len(ahead), len(text)))

    def test_the_end(self):
        self.check("", 0, ("end", None, 0, 0))
        for blanks in range(5):
            for ahead in ("", "from", "1"):
                text = ahead + " " * blanks
                for place in range(len(ahead), len(text) + 1):
                    self.check(text, place, ("end", None, len(text), len(text)))

    def test_no_words(self):
        for written in NO_WORDS:
            for ahead, behind in itertools.product(("", "  ", "from "), ("", " ", " from")):
                if behind and written.count('"') % 2:
                    continue
                text = ahead + written + behind
                start = len(ahead)
                self.check(text, start, ("bad", None, start, start))

    def test_a_text_without_an_end(self):
        for text in ('"', '"abc', '"abc ""', '"""', '"a"" = 1', '"' + '""' * 30):
            self.check(text, 0, ("bad", None, 0, 0))
        self.check('x "a', 1, ("bad", None, 2, 2))

    def test_letters_are_taken_as_far_as_they_go(self):
        for many in range(1, 9):
            self.check("x" * many + "1", 0, ("name", "x" * many, 0, many))
        self.check("x" * 9 + " a", 0, ("bad", None, 0, 0))
        self.check("froma", 0, ("name", "froma", 0, 5))
        self.check("from1", 0, ("key", "from", 0, 4))
        self.check("orderby", 0, ("name", "orderby", 0, 7))
        self.check("andor", 0, ("name", "andor", 0, 5))
        self.check("aB", 0, ("name", "a", 0, 1))
        self.check("a\u00e4", 0, ("name", "a", 0, 1))
        self.check("abc", 1, ("name", "bc", 1, 3))
        self.check("xnot", 1, ("key", "not", 1, 4))

    def test_numbers_are_taken_as_far_as_they_go(self):
        self.check("12a", 0, ("number", 12, 0, 2))
        self.check("12-3", 0, ("number", 12, 0, 2))
        self.check("12-3", 2, ("number", -3, 2, 4))
        self.check("0a", 0, ("number", 0, 0, 1))
        self.check("0-", 0, ("number", 0, 0, 1))
        self.check("1.5", 0, ("number", 1, 0, 1))
        self.check("0 1", 0, ("number", 0, 0, 1))
        self.check("01", 1, ("number", 1, 1, 2))
        self.check("-0x", 0, ("bad", None, 0, 0))
        self.check("-0x", 1, ("number", 0, 1, 2))
        self.check("1\u0661", 0, ("number", 1, 0, 1))
        self.check("-5", 1, ("number", 5, 1, 2))

    def test_texts_end_at_the_first_sign_that_is_not_one_of_two(self):
        self.check('"a"b"', 0, ("text", "a", 0, 3))
        self.check('"a" "b"', 0, ("text", "a", 0, 3))
        self.check('"a""b" "c"', 0, ("text", 'a"b', 0, 6))
        self.check('"""" """"', 0, ("text", '"', 0, 4))
        self.check('"" ""', 0, ("text", "", 0, 2))
        self.check('"a"1', 0, ("text", "a", 0, 3))
        self.check('"a""b"', 2, ("text", "", 2, 4))
        self.check('"a\nb" "c"', 0, ("bad", None, 0, 0))

    def test_signs_side_by_side(self):
        for text, wanted in (
            ("<>", ["<>"]), ("<=", ["<="]), (">=", [">="]), ("< =", ["<", "="]), ("< >", ["<", ">"]),
            ("=<", ["=", "<"]),
            ("=>", ["=", ">"]), ("><", [">", "<"]), ("<<>", ["<", "<>"]), ("<>=", ["<>", "="]), ("<=>", ["<=", ">"]),
            (">==", [">=", "="]), ("==", ["=", "="]), ("((", ["(", "("]), ("),", [")", ","]), ("..", [".", "."]),
            (">=<", [">=", "<"]), ("<<", ["<", "<"]), (">>=", [">", ">="]),
        ):
            found = []
            place = 0
            while place < len(text):
                kind, value, start, place = word_at(text, place)
                self.assertEqual((kind, text[start:place]), ("sign", value))
                found.append(value)
            self.assertEqual(found, wanted)

    def test_all_short_texts_against_a_pattern(self):
        pattern = re.compile(r' *(?:([a-z]+)|(-?[0-9]+)|("(?:[^"]|"")*")(?!")|(<>|<=|>=|[<>=,.()])|()\Z)', re.DOTALL)
        for many in range(5):
            for picked in itertools.product('a0-" <=>.', repeat=many):
                text = "".join(picked)
                for place in range(many + 1):
                    self.check(text, place, self.by_pattern(pattern, text, place))

    def by_pattern(self, pattern, text, place):
        start = len(text) - len(text[place:].lstrip(" "))
        found = pattern.match(text, place)
        if not found:
            return ("bad", None, start, start)
        letters, number, quoted, sign, end = found.groups()
        if end is not None:
            return ("end", None, len(text), len(text))
        if letters:
            return ("name", letters, start, found.end())
        if number and re.fullmatch("0|-?[1-9][0-9]*", number):
            return ("number", int(number), start, found.end())
        if quoted:
            return ("text", quoted[1:-1].replace('""', '"'), start, found.end())
        return ("sign", sign, start, found.end()) if sign else ("bad", None, start, start)

    def test_all_signs(self):
        for code in list(range(256)) + [0x430, 0x661, 0x2028, 0xff11, 0xff41]:
            sign = chr(code)
            if sign == "%":
                continue
            kind = word_at(sign, 0)[0]
            if sign == " ":
                self.assertEqual(kind, "end")
            elif sign in string.ascii_lowercase:
                self.assertEqual(kind, "name")
            elif sign in string.digits:
                self.assertEqual(kind, "number")
            else:
                self.assertEqual(kind, "sign" if sign in SIGNS else "bad", sign)

    def test_the_900_signs_are_not_looked_at(self):
        text = " " * 950 + "from" + " " * 950 + "abc"
        self.check(text, 0, ("key", "from", 950, 954))
        self.check(text, 954, ("name", "abc", 1904, 1907))


if __name__ == "__main__":
    unittest.main()
