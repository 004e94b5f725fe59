"""tablestore.showing, by the points [6.4] and [6.6]."""

import copy
import itertools
import random
import unittest

from tablestore.asking import read
from tablestore.showing import cells_of, columns_of, condition_text, shown

SIGNS = ["=", "<>", "<", "<=", ">", ">="]
A, B, C, D = [("test", "=", ("column", letter, "x"), ("value", k)) for k, letter in enumerate("abcd")]

# Trees of conditions by their plain texts, with letters for tests.
TEXTS = [
    (A, "A"), (("not", A), "not A"), (("not", ("not", A)), "not not A"), (("and", A, B), "A and B"),
    (("or", A, B), "A or B"),
    (("and", ("and", A, B), C), "A and B and C"), (("and", A, ("and", B, C)), "A and (B and C)"),
    (("or", ("or", A, B), C), "A or B or C"), (("or", A, ("or", B, C)), "A or (B or C)"),
    (("and", ("or", A, B), C), "(A or B) and C"), (("and", A, ("or", B, C)), "A and (B or C)"),
    (("or", ("and", A, B), C), "A and B or C"), (("or", A, ("and", B, C)), "A or B and C"),
    (("not", ("and", A, B)), "not (A and B)"), (("not", ("or", A, B)), "not (A or B)"),
    (("not", ("not", ("or", A, B))), "not not (A or B)"), (("and", ("not", A), ("not", B)), "not A and not B"),
    (("or", ("not", A), ("not", ("and", B, C))), "not A or not (B and C)"),
    (("and", ("and", A, ("and", B, C)), D), "A and (B and C) and D"),
    (("and", A, ("and", B, ("and", C, D))), "A and (B and (C and D))"),
    (("or", A, ("or", B, ("or", C, D))), "A or (B or (C or D))"),
    (("and", ("and", ("and", A, B), C), D), "A and B and C and D"),
    (("or", ("or", A, ("and", B, C)), D), "A or B and C or D"),
    (("and", ("or", A, B), ("or", C, D)), "(A or B) and (C or D)"),
    (("or", ("and", A, B), ("and", C, D)), "A and B or C and D"),
    (("and", ("and", A, B), ("and", C, D)), "A and B and (C and D)"),
    (("or", ("or", A, B), ("or", C, D)), "A or B or (C or D)"),
    (("not", ("and", A, ("not", ("or", B, C)))), "not (A and not (B or C))"),
    (("and", ("not", ("or", A, B)), C), "not (A or B) and C"), (("or", A, ("not", ("not", B))), "A or not not B"),
]


def with_tests(text):
    for letter, test in zip("ABCD", ("a.x = 0", "b.x = 1", "c.x = 2", "d.x = 3")):
        text = text.replace(letter, test)
    return text


def question(condition):
    return ("ask", (("a", "a"),), condition, (), (("column", "a", "x"),), None)


def chance_value(chance):
    return ("value", chance.choice([None, 0, -1, 12, 10 ** 18 - 1, "", '"', 'a"b', "x y", "or", "~"]))


def chance_side(chance):
    return ("column",
            chance.choice("abc"), chance.choice(["x", "name"])) if chance.random() < 0.6 else chance_value(chance)


def chance_tree(chance, tests, nots):
    if nots > 0 and chance.random() < 0.3:
        return ("not", chance_tree(chance, tests, nots - 1))
    if tests > 1:
        first = chance.randint(1, tests - 1)
        half = chance.randint(0, nots)
        return (chance.choice(["and", "or"]), chance_tree(chance, first, half),
                chance_tree(chance, tests - first, nots - half))
    return ("test", chance.choice(SIGNS), chance_side(chance), chance_side(chance))


def chance_question(chance):
    many = chance.randint(1, 3)
    sources = tuple([(chance.choice(["t", "people"]), chance.choice(["t", "people", "q"])) for _ in range(many)])
    condition = None if chance.random() < 0.1 else chance_tree(chance, chance.randint(1, 8), chance.randint(0, 5))

    def columns(least):
        return [("column", chance.choice("abc"), chance.choice("xyz")) for _ in range(chance.randint(least, 8))]

    orders = tuple([(column, chance.random() < 0.5) for column in columns(0)])
    return ("ask", sources, condition, orders, tuple(columns(1)), chance.choice([None, 0, 5, 10 ** 17]))


def deep_copy_is_same(case, function, thing):
    kept = copy.deepcopy(thing)
    function(thing)
    case.assertEqual(thing, kept)


class Shown(unittest.TestCase):
    def test_written_out(self):
        column = ("column", "a", "b")
        for tree, text in (
            (("ask", (("a", "a"),), None, (), (column,), None), "from a show a.b"),
            (("ask", (("a", "b"),), None, (), (column,), None), "from a b show a.b"),
            (("ask", (("a", "a"), ("b", "b"), ("c", "d")), None, (), (column, column), 0),
             "from a, b, c d show a.b, a.b take 0"),
            (("ask", (("people", "p"),), ("test", "<>", ("column", "p", "name"), ("value", 'a"b')),
              ((("column", "p", "age"), True), (column, False)), (column,), 12),
             'from people p where p.name <> "a""b" order by p.age down, a.b show a.b take 12'),
            (("ask", (("a", "a"),), ("test", "<", ("value", None), ("value", -5)), ((column, False),), (column,), None),
             "from a where none < -5 order by a.b show a.b"),
            (("ask", (("a", "x"), ("a", "a")), ("not", ("or", A, ("and", B, C))), ((column, True),), (column,), None),
             "from a x, a where not (a.x = 0 or b.x = 1 and c.x = 2) order by a.b down show a.b"),
        ):
            self.assertEqual(shown(tree), text)
            self.assertEqual(read(text), tree)

    def test_conditions(self):
        for tree, text in TEXTS:
            self.assertEqual(condition_text(tree), with_tests(text))
            self.assertEqual(shown(question(tree)), "from a where " + with_tests(text) + " show a.x")
            self.assertEqual(read(shown(question(tree))), question(tree))

    def test_values_and_signs(self):
        for sign in SIGNS:
            for value, text in ((None, "none"), (0, "0"), (-7, "-7"), ("", '""'), ('"', '""""'), ("a b", '"a b"'),
                                ("none", '"none"')):
                self.assertEqual(condition_text(("test", sign, ("value", value), ("column", "a", "b"))),
                                 f"{text} {sign} a.b")
                self.assertEqual(condition_text(("test", sign, ("column", "a", "b"), ("value", value))),
                                 f"a.b {sign} {text}")

    def test_each_bracket_that_is_there_is_needed(self):
        for tree, _ in TEXTS:
            text = shown(question(tree))
            pile = []
            for place, sign in enumerate(text):
                if sign == "(":
                    pile.append(place)
                elif sign == ")":
                    start = pile.pop()
                    bare = text[:start] + text[start + 1:place] + text[place + 1:]
                    self.assertNotEqual(read(bare), question(tree), bare)

    def test_brackets_that_are_not_needed_are_gone(self):
        for text, plain in (
            ("((A))", "A"), ("(A and B) and C", "A and B and C"), ("(A or B) or C", "A or B or C"),
            ("A or (B and C)", "A or B and C"), ("not (A)", "not A"), ("not ((A or B))", "not (A or B)"),
            ("(not A) and (not (not B))", "not A and not not B"), ("((A and B) or (C and D))", "A and B or C and D"),
        ):
            tree = read("from a where " + with_tests(text) + " show a.x")
            self.assertEqual(condition_text(tree[2]), with_tests(plain))
            self.assertEqual(read(shown(tree)), tree)

    def test_trees_by_chance_are_read_again(self):
        chance = random.Random(91)
        seen = 0
        for _ in range(1500):
            tree = chance_question(chance)
            text = shown(tree)
            if len(text) <= 900:
                seen += 1
                self.assertEqual(repr(read(text)), repr(tree))
                self.assertEqual(shown(read(text)), text)
        self.assertGreater(seen, 1000)

    def test_texts_that_are_read_are_shown_plain(self):
        for text, plain in (
            ("from  a a ,b c  show a . b", "from a, b c show a.b"),
            ("from a where(1=2)and not(3<>a.b or\"x\"=none)order by a.b down,c.d show a.b,c.d take 7",
             'from a where 1 = 2 and not (3 <> a.b or "x" = none) order by a.b down, c.d show a.b, c.d take 7'),
        ):
            self.assertEqual(shown(read(text)), plain)

    def test_sixty_brackets_and_not(self):
        tree = A
        for _ in range(60):
            tree = ("not", tree)
        self.assertEqual(condition_text(tree), "not " * 60 + "a.x = 0")
        tree = A
        for _ in range(30):
            tree = ("not", ("or", tree, A))
        self.assertEqual(condition_text(tree), "not (" * 30 + "a.x = 0" + " or a.x = 0)" * 30)
        tree = ("and", A, A)
        for _ in range(20):
            tree = ("not", ("not", tree))
            tree = ("and", A, tree)
        self.assertEqual(condition_text(tree), "a.x = 0 and not not (" * 20 + "a.x = 0 and a.x = 0" + ")" * 20)

    def test_more_than_900_signs(self):
        test = ("test", "<>", ("column", "abcdefgh", "ijklmnop"), ("value", '"' * 40))
        tree = test
        for _ in range(19):
            tree = ("and", tree, test)
        text = shown(question(tree))
        one = 'abcdefgh.ijklmnop <> "' + '""' * 40 + '"'
        self.assertEqual(text, "from a where " + " and ".join([one] * 20) + " show a.x")
        self.assertGreater(len(text), 2000)


class ColumnsAndCells(unittest.TestCase):
    def test_columns_as_they_stand_in_the_plain_text(self):
        tree = read('from a, b where b.z = a.y and (1 < c.x or not "t" = a.y) or a.y = a.y '
                    "order by q.r down, a.y show b.z, q.r, b.z")
        self.assertEqual(columns_of(tree), [("column", *name.split(".")) for name in
                                            "b.z a.y c.x a.y a.y a.y q.r a.y b.z q.r b.z".split()])
        self.assertEqual(columns_of(read("from a show x.y")), [("column", "x", "y")])

    def test_columns_against_the_words_of_the_plain_text(self):
        chance = random.Random(92)
        for _ in range(400):
            tree = chance_question(chance)
            bare = "".join([piece for place, piece in enumerate(shown(tree).split('"')) if place % 2 == 0])
            words = bare.replace(",", " ").replace("(", " ").replace(")", " ").split()
            found = [("column", *word.split(".")) for word in words if "." in word]
            self.assertEqual(columns_of(tree), found)

    def test_cells(self):
        one, two, three = ("cell", 0, 1), ("cell", 1, 0), ("cell", 2, 7)
        value = ("value", 5)
        for condition, cells in (
            (None, []), (("test", "=", value, value), []), (("test", "=", one, value), [one]),
            (("test", "<", value, two), [two]),
            (("test", ">", one, two), [one, two]), (("test", ">", two, two), [two, two]),
            (("not", ("and", ("test", "=", three, one), ("or", ("test", "=", value, two), ("test", "=", one, three)))),
             [three, one, two, one, three]),
        ):
            self.assertEqual(cells_of(condition), cells)

    def test_lists_are_the_askers_own_and_trees_stay(self):
        tree = read("from a where a.b = 1 or a.c = 2 order by a.b show a.b")
        for function in (shown, columns_of):
            deep_copy_is_same(self, function, tree)
        told = columns_of(tree)
        told.clear()
        self.assertEqual(len(columns_of(tree)), 4)
        condition = ("test", "=", ("cell", 0, 0), ("cell", 0, 1))
        told = cells_of(condition)
        told.append(1)
        self.assertEqual(cells_of(condition), [("cell", 0, 0), ("cell", 0, 1)])

    def test_deep_trees(self):
        for one, other in itertools.product(("and", "or"), repeat=2):
            tree = A
            for k in range(20):
                tree = ("not", ("not", ("not", (one if k % 2 else other, tree, A) if k else A)))
            self.assertEqual(columns_of(question(tree)), [("column", "a", "x")] * 21)


if __name__ == "__main__":
    unittest.main()
