"""tablestore.records, by the points [5.1] and [5.2]."""

import itertools
import random
import unittest

from tablestore.errors import BadLog, TableError
from tablestore.records import change_text, read_change, record

EIGHT = ("wide", tuple([(letter, "number" if letter < "e" else "text") for letter in "abcdefgh"]))

WRITTEN = [
    (("table", ("people", (("name", "text"), ("age", "number")))), "table people name text age number"),
    (("table", ("t", (("t", "text"),))), "table t t text"),
    (("table", EIGHT), "table wide a number b number c number d number e text f text g text h text"),
    (("table", ("table", (("number", "text"), ("text", "number")))), "table table number text text number"),
    (("index", "people", "age"), "index people age"),
    (("index", "index", "index"), "index index index"),
    (("put", "people", 1, ("ann", 31)), 'put people 1 "ann" 31'),
    (("put", "people", 10 ** 9, (None, None)), "put people 1000000000 none none"),
    (("put", "t", 7, ("",)), 'put t 7 ""'),
    (("put", "t", 7, (" ",)), 'put t 7 " "'),
    (("put", "t", 70, ('a"b  c "', -5, 0)), 'put t 70 "a""b  c """ -5 0'),
    (("put", "put", 12, ("put t 1 2", "end")), 'put put 12 "put t 1 2" "end"'),
    (("put", "wide", 3, (1, 2, 3, 4, "e", "f", "g", "h")), 'put wide 3 1 2 3 4 "e" "f" "g" "h"'),
    (("put", "t", 2, (10 ** 18 - 1, 1 - 10 ** 18)), "put t 2 " + "9" * 18 + " -" + "9" * 18),
    (("put", "t", 2, ("~" * 40,)), 'put t 2 "' + "~" * 40 + '"'),
    (("put", "t", 2, ("%",)), 'put t 2 "%"'),
    (("drop", "people", 1), "drop people 1"),
    (("drop", "drop", 10 ** 9), "drop drop 1000000000"),
    (("drop", "abcdefgh", 999999999), "drop abcdefgh 999999999"),
]

BAD = [
    "", " ", "table", "table ", "table t", "table t ", "table t a", "table t a ", "table t a none", "table t a Text",
    "table t a text b", "table t a text ", " table t a text", "table  t a text", "table t  a text", "table t a  text",
    "table t a text  b text", "table t a text a number", "table none a text", "table t by text", "table T a text",
    "table toolongname a text", "table t abcdefghi text", "table t a text b number c", "Table t a text",
    "table t 1 text",
    "table t text", "table t text text text", "table\tt a text", "table t a text\n", "table t a,text",
    "table t (a text)",
    "table t " + " ".join([f"{letter} text" for letter in "abcdefghi"]),
    "index", "index ", "index t", "index t ", "index t a b", "index t a ", "index  t a", "index t  a", " index t a",
    "index none a", "index t none", "index T a", "index t A", "index t 1", "index t toolongname", "Index t a",
    "index t a\n",
    "indexes t a", "index t.a", "index,t,a",
    "put", "put ", "put t", "put t ", "put t 1", "put t 1 ", "put t 1  1", "put t  1 1", "put  t 1 1", " put t 1 1",
    "put t 1 1 ", "put t 1 1  2", "put t 0 1", "put t 01 1", "put t -1 1", "put t +1 1", "put t 1000000001 1",
    "put t 9999999999 1", "put t 10000000000 1", "put t " + "1" * 6000 + " 1", "put t 1.0 1", "put t one 1",
    "put t none 1",
    'put t "1" 1', "put t 1_0 1", "put t \u0661 1", "put t \u00b2 1", "put none 1 1", "put T 1 1",
    "put toolongname 1 1",
    "put 1 1", "put t 1 a", "put t 1 01", "put t 1 -0", "put t 1 None", 'put t 1 "a', 'put t 1 a"', 'put t 1 "a"b"',
    'put t 1 "' + "x" * 41 + '"', "put t 1 " + "9" * 19, "put t 1 1 2 3 4 5 6 7 8 9", "put t 1 " + "none " * 8 + "none",
    'put t 1 "a" "b', "put t 1 1,2", "put t 1\t1", "put t 1 1\n", 'put t 1 "\n"', 'put t 1 "\u00e4"', "Put t 1 1",
    "puts t 1 1",
    "drop", "drop ", "drop t", "drop t ", "drop t 0", "drop t 01", "drop t -1", "drop t 1000000001", "drop t 1 ",
    "drop t  1", "drop  t 1", " drop t 1", "drop t 1 1", "drop t a", "drop t none", "drop none 1", "drop T 1", "drop 1",
    "drop t 1\n", "drop t \u0661", "drop t " + "9" * 5000, 'drop t "1"', "Drop t 1", "drop toolongname 1",
    "drop t 1 none",
    "change t 1 1", "make t a text", "order t a", "row t 1", "end", "none", "1", "000000001", "table;t;a;text", "#",
    "put\n",
]


class Lines(unittest.TestCase):
    def check_refused(self, line):
        with self.assertRaises(TableError) as caught:
            read_change(line)
        self.assertIs(type(caught.exception), BadLog, line[:60])

    def test_written_as_told(self):
        for change, line in WRITTEN:
            self.assertEqual(change_text(change), line)

    def test_read_as_told(self):
        for change, line in WRITTEN:
            self.assertEqual(repr(read_change(line)), repr(change))

    def test_other_lines_are_refused(self):
        for line in BAD:
            self.check_refused(line)

    def test_how_many_values(self):
        for many in range(0, 12):
            line = "put t 1 " + " ".join(["none"] * many)
            if 1 <= many <= 8:
                self.assertEqual(read_change(line), ("put", "t", 1, (None,) * many))
            else:
                self.check_refused(line)

    def test_how_many_columns(self):
        for many in range(0, 12):
            columns = [("abcdefghijkl"[k], ("text", "number")[k % 2]) for k in range(many)]
            line = "table t" + "".join([f" {name} {kind}" for name, kind in columns])
            if 1 <= many <= 8:
                self.assertEqual(read_change(line), ("table", ("t", tuple(columns))))
            else:
                self.check_refused(line)

    def test_a_blank_more_or_less_anywhere(self):
        for change, line in WRITTEN:
            for place in range(len(line) + 1):
                in_text = line[:place].count('"') % 2 == 1
                if not in_text and self.parts_words(line, place):
                    self.check_refused(line[:place] + " " + line[place:])
                if line[place:place + 1] == " " and not in_text:
                    self.check_other(line[:place] + line[place + 1:], change)

    def parts_words(self, line, place):
        """Whether a blank at that place stands beside another one, or at an end of the line."""
        return place in (0, len(line)) or " " in line[place - 1:place + 1]

    def check_other(self, line, change):
        """A line with a blank left out is refused, or read to another change."""
        try:
            self.assertNotEqual(read_change(line), change)
        except BadLog:
            pass

    def test_each_line_with_another_sign(self):
        for change, line in WRITTEN:
            for place in range(len(line)):
                for sign in ("", "\n", "\t", "\u00e4", "Z", "~", "0", " ", '"'):
                    other = line[:place] + sign + line[place + 1:]
                    if other != line:
                        self.check_other(other, change)

    def test_what_is_read_is_written_to_the_same_line(self):
        chance = random.Random(61)
        pieces = ["put", "drop", "index", "table", "t", "none", "1", "0", "10", "text", "number", '"a"', '""', "a", "",
                  '"']
        for _ in range(20000):
            line = " ".join([chance.choice(pieces) for _ in range(chance.randint(1, 6))])
            try:
                change = read_change(line)
            except BadLog:
                continue
            self.assertEqual(change_text(change), line)

    def test_rows_of_all_kinds(self):
        values = [None, 0, -1, 12, "", " ", '"', '" "', "a b", "none", "1", "\\n"]
        for row in itertools.product(values, repeat=3):
            change = ("put", "t", 5, row)
            self.assertEqual(read_change(change_text(change)), change)


class Records(unittest.TestCase):
    def test_as_told(self):
        self.assertEqual(record([("drop", "t", 5)]), "000000009\ndrop t 5\nend\n")
        self.assertEqual(
            record([("table", ("t", (("a", "text"),))), ("put", "t", 1, ("x",)), ("drop", "t", 1)]),
            "000000036\ntable t a text\nput t 1 \"x\"\ndrop t 1\nend\n")

    def test_sizes(self):
        for many in (1, 10, 11, 12, 111, 112, 1200):
            changes = [("drop", "t", 5)] * many
            text = record(changes)
            body = "drop t 5\n" * many
            self.assertEqual(text, str(len(body)).rjust(9, "0") + "\n" + body + "end\n")

    def test_the_list_handed_in_stays(self):
        changes = [change for change, _ in WRITTEN]
        kept = list(changes)
        text = record(changes)
        self.assertEqual(changes, kept)
        lines = [line + "\n" for _, line in WRITTEN]
        self.assertEqual(text[10:], "".join(lines) + "end\n")


if __name__ == "__main__":
    unittest.main()
