"""tablestore.asking, and with it tablestore.piles, by the points [6.2] to [6.5]."""

import ast
import random
import re
import unittest

from tablestore.asking import fault_in, read
from tablestore.errors import BadQuestion, TableError
from things import no_values

TEST_SIGNS = ["=", "<>", "<", "<=", ">", ">="]
WORD = re.compile(r'[a-z]+|-?[0-9]+|"(?:[^"]|"")*"|<>|<=|>=|[<>=,.()]')
KEYS = ["and", "by", "down", "from", "none", "not", "or", "order", "show", "take", "where"]
# One word of each kind, and each key and sign, to stand where it may not.
ALL_WORDS = KEYS + TEST_SIGNS + [",", ".", "(", ")", "x", "people", "0", "7", "-7", '"t"', "!", "toolongname", "-0",
                                 '"']

QUESTIONS = [
    "from a show a.b",
    "from a x, b, c y where x.p = 1 order by y.q down, b.r show x.p, b.r take 3",
    'from a where not (a.b <> none or "t" < a.c) and -5 >= a.d or not not a.e = a.f show a.b',
    "from a, b where ((a.b = 1)) and (b.c = 2 and (a.d = 3 or b.e = 4)) order by a.b show a.b take 0",
    "from a, a b, a c order by a.a, a.b down, a.c, a.d, a.e, a.f, a.g, a.h down "
    "show a.a, a.b, a.c, a.d, a.e, a.f, a.g, a.h",
    "from abcdefgh stop where 1 = 2 or 3 = 4 and 5 = 6 or 7 = 8 show stop.begin",
]


def kind_of(word):
    """The kind by which a word may stand in a question, None where it is no word."""
    if word in KEYS + TEST_SIGNS + [",", ".", "(", ")"]:
        return word
    if re.fullmatch("[a-z]{1,8}", word):
        return "NAME"
    if re.fullmatch("0|[1-9][0-9]{0,17}", word):
        return "COUNT"
    if re.fullmatch("-[1-9][0-9]{0,17}", word):
        return "BELOW"
    if re.fullmatch('"(?:[ !#-~]|""){0,40}"', word):
        return "TEXT"
    return None


class Automaton:
    """An account of [6.2] and [6.3] other than the program's: for each place, by which word it goes on to which."""

    NEXT = {
        "start": {"from": "source"},
        "source": {"NAME": "table"},
        "table": {"NAME": "alias", ",": "source", "where": "side", "order": "by", "show": "shown"},
        "alias": {",": "source", "where": "side", "order": "by", "show": "shown"},
        "side": {"not": "side", "(": "side", "NAME": "left", "none": "sign", "COUNT": "sign", "BELOW": "sign",
                 "TEXT": "sign"},
        "left": {".": "left name"}, "left name": {"NAME": "sign"},
        "sign": {sign: "right" for sign in TEST_SIGNS},
        "right": {"NAME": "right dot", "none": "tested", "COUNT": "tested", "BELOW": "tested", "TEXT": "tested"},
        "right dot": {".": "right name"}, "right name": {"NAME": "tested"},
        "tested": {"and": "side", "or": "side", ")": "tested", "order": "by", "show": "shown"},
        "by": {"by": "ordered"},
        "ordered": {"NAME": "ordered dot"}, "ordered dot": {".": "ordered name"}, "ordered name": {"NAME": "order"},
        "order": {"down": "down", ",": "ordered", "show": "shown"}, "down": {",": "ordered", "show": "shown"},
        "shown": {"NAME": "shown dot"}, "shown dot": {".": "shown name"}, "shown name": {"NAME": "show"},
        "show": {",": "shown", "take": "take"},
        "take": {"COUNT": "taken"},
        "taken": {},
    }

    def __init__(self):
        self.place = "start"
        self.depth = self.nested = self.tests = 0
        self.many = {"source": 1, "ordered": 1, "shown": 1}

    def goes_on(self, word):
        kind = kind_of(word)
        after = self.NEXT[self.place].get(kind)
        if after is None:
            return False
        if kind == ",":
            self.many[after] += 1
            if self.many[after] > (3 if after == "source" else 8):
                return False
        if self.place == "side":
            if kind in ("not", "("):
                self.nested += 1
                self.depth += kind == "("
            else:
                self.tests += 1
            if self.nested > 20 or self.tests > 20:
                return False
        if self.place == "tested":
            if kind == ")":
                self.depth -= 1
            if self.depth < 0 or kind in ("order", "show") and self.depth:
                return False
        self.place = after
        return True

    def is_over(self):
        return self.place in ("show", "taken")


def words_in(text):
    return [(found.group(), found.start()) for found in WORD.finditer(text)]


def plain_fault(words, length):
    """The place of the fault in a text of these words with their places; None of a question."""
    automaton = Automaton()
    for word, place in words:
        if not automaton.goes_on(word):
            return place
    return None if automaton.is_over() else length


def plain_operand(word):
    if "." in word:
        alias, name = word.split(".")
        return ("column", alias, name)
    if word == "none":
        return ("value", None)
    return ("value", word[1:-1].replace('""', '"') if word.startswith('"') else int(word))


def plain_condition(text):
    """The tree of a condition, by Python's own reading of and, or, not and brackets."""
    tests = []

    def keep(found):
        tests.append(("test", found.group(2), plain_operand(found.group(1)), plain_operand(found.group(3))))
        return f" t{len(tests) - 1} "

    operand = r'([a-z]+\.[a-z]+|none|-?[0-9]+|"(?:[^"]|"")*")'
    swapped = re.sub(operand + " *(<>|<=|>=|[<>=]) *" + operand, keep, text)

    def tree_of(node):
        if isinstance(node, ast.Name):
            return tests[int(node.id[1:])]
        if isinstance(node, ast.UnaryOp):
            return ("not", tree_of(node.operand))
        word = "and" if isinstance(node.op, ast.And) else "or"
        tree = tree_of(node.values[0])
        for value in node.values[1:]:
            tree = (word, tree, tree_of(value))
        return tree

    return tree_of(ast.parse(swapped.strip(), mode="eval").body)


def chance_operand(chance):
    return chance.choice(["a.b", "b.a", "x.y", "none", "0", "-12", "7", '""', '"q""r"', '"and (or) ="', "stop.begin"])


def chance_condition(chance, tests, nested):
    """The text of a condition with at most so many tests, and so many brackets and not."""
    turn = chance.random()
    if nested > 0 and turn < 0.25:
        return "not " + chance_condition(chance, tests, nested - 1)
    if nested > 0 and turn < 0.5:
        return "(" + chance_condition(chance, tests, nested - 1) + ")"
    if tests > 1 and turn < 0.95:
        first = chance.randint(1, tests - 1)
        half = chance.randint(0, nested)
        return (chance_condition(chance, first, half) + chance.choice([" and ", " or "])
                + chance_condition(chance, tests - first, nested - half))
    return chance_operand(chance) + chance.choice(["", " "]) + chance.choice(TEST_SIGNS) + " " + chance_operand(chance)


class TestCase(unittest.TestCase):
    def check_question(self, text, tree):
        self.assertIsNone(fault_in(text), text)
        self.assertEqual(repr(read(text)), repr(tree), text)

    def check_fault(self, text, place):
        self.assertEqual(fault_in(text), place, text)
        with self.assertRaises(TableError) as caught:
            read(text)
        self.assertIs(type(caught.exception), BadQuestion)

    def condition_of(self, text):
        return read(f"from a where {text} show a.b")[2]


class Trees(TestCase):
    def test_written_out(self):
        self.check_question("from a show a.b", ("ask", (("a", "a"),), None, (), (("column", "a", "b"),), None))
        self.check_question(
            "from a x, b, c y where x.p = 1 order by y.q down, b.r show x.p, b.r take 3",
            ("ask", (("a", "x"), ("b", "b"), ("c", "y")),
             ("test", "=", ("column", "x", "p"), ("value", 1)),
             ((("column", "y", "q"), True), (("column", "b", "r"), False)),
             (("column", "x", "p"), ("column", "b", "r")), 3))
        self.check_question(
            'from a where not (a.b <> none or "t" < a.c) and -5 >= a.d or not not a.e = a.f show a.b',
            ("ask", (("a", "a"),),
             ("or",
              ("and",
               ("not", ("or", ("test", "<>", ("column", "a", "b"), ("value", None)),
                        ("test", "<", ("value", "t"), ("column", "a", "c")))),
               ("test", ">=", ("value", -5), ("column", "a", "d"))),
              ("not", ("not", ("test", "=", ("column", "a", "e"), ("column", "a", "f"))))),
             (), (("column", "a", "b"),), None))

    def test_sources(self):
        for text, sources in (
            ("a", (("a", "a"),)), ("a b", (("a", "b"),)), ("a a", (("a", "a"),)), ("a b,a b", (("a", "b"), ("a", "b"))),
            ("a , b c ,d", (("a", "a"), ("b", "c"), ("d", "d"))), ("abcdefgh hgfedcba", (("abcdefgh", "hgfedcba"),)),
        ):
            self.assertEqual(read(f"from {text} show z.z")[1], sources)

    def test_orders_and_columns(self):
        columns = [("column", "a", letter) for letter in "abcdefgh"]
        for many in range(1, 9):
            for downs in range(2 ** many if many < 5 else 3):
                orders = tuple([(columns[k], downs >> k & 1 == 1) for k in range(many)])
                text = ", ".join([f"a.{column[2]}" + (" down" if down else "") for column, down in orders])
                shown = ",".join([f"a . {column[2]}" for column in columns[:many]])
                self.check_question(
                    f"from a order by {text} show {shown}", ("ask", (("a", "a"),), None, orders, tuple(columns[:many]),
                                                             None))

    def test_take(self):
        for number in (0, 1, 10, 10 ** 18 - 1):
            self.assertEqual(read(f"from a show a.b take {number}")[5], number)
        self.assertIsNone(read("from a show a.b")[5])
        for word in ("-1", "-0", "00", "01", "none", '"1"', "x", "take", str(10 ** 18), "1.0"):
            text = f"from a show a.b take {word}"
            self.check_fault(text, 22 if word == "1.0" else 21)
        self.check_fault("from a show a.b take", 20)
        self.check_fault("from a show a.b take 1 take 1", 23)
        self.check_fault("from a show a.b take 1, 2", 22)

    def test_tests_of_each_sign_and_operand(self):
        operands = ["a.b", "none", "0", "-5", '""', '"a""b"', str(10 ** 18 - 1)]
        for one in operands:
            for sign in TEST_SIGNS:
                for other in operands:
                    wanted = ("test", sign, plain_operand(one), plain_operand(other))
                    self.assertEqual(self.condition_of(f"{one} {sign} {other}"), wanted)
                    self.assertEqual(self.condition_of(f"({one}{sign}{other})"), wanted)

    def test_what_binds_closer(self):
        a, b, c, d = [("test", "=", ("value", k), ("value", k)) for k in range(4)]
        for text, tree in (
            ("A and B and C", ("and", ("and", a, b), c)), ("A or B or C", ("or", ("or", a, b), c)),
            ("A and (B and C)", ("and", a, ("and", b, c))), ("A or (B or C)", ("or", a, ("or", b, c))),
            ("A or B and C", ("or", a, ("and", b, c))), ("A and B or C", ("or", ("and", a, b), c)),
            ("(A or B) and C", ("and", ("or", a, b), c)), ("A and (B or C)", ("and", a, ("or", b, c))),
            ("not A and B", ("and", ("not", a), b)), ("not A or B", ("or", ("not", a), b)),
            ("not (A and B)", ("not", ("and", a, b))), ("not not A", ("not", ("not", a))),
            ("A and not B or C", ("or", ("and", a, ("not", b)), c)), ("A or not B and C",
                                                                      ("or", a, ("and", ("not", b), c))),
            ("A or B and C or D", ("or", ("or", a, ("and", b, c)), d)), ("A and B or C and D",
                                                                         ("or", ("and", a, b), ("and", c, d))),
            ("not (not A or B) and not C", ("and", ("not", ("or", ("not", a), b)), ("not", c))),
            ("((A))", a), ("not ((A) or (B))", ("not", ("or", a, b))), ("(A or B) or (C or D)",
                                                                        ("or", ("or", a, b), ("or", c, d))),
            ("A or (B and (C or not D))", ("or", a, ("and", b, ("or", c, ("not", d))))),
            ("(A) and (((B) or C) and not (D))", ("and", a, ("and", ("or", b, c), ("not", d)))),
        ):
            for k, letter in enumerate("ABCD"):
                text = text.replace(letter, f"{k} = {k}")
            self.assertEqual(self.condition_of(text), tree, text)

    def test_conditions_by_chance_against_pythons_own_reading(self):
        chance = random.Random(81)
        for _ in range(1500):
            text = chance_condition(chance, chance.randint(1, 12), chance.randint(0, 12))
            self.assertEqual(repr(self.condition_of(text)), repr(plain_condition(text)), text)

    def test_blanks_do_not_count(self):
        for text in QUESTIONS:
            words = [word for word, _ in words_in(text)]
            tree = read(text)
            self.check_question("  " + "   ".join(words) + " ", tree)
            tight = words[0]
            for word in words[1:]:
                beside = tight[-1] + word[0]
                apart = tight[-1].isalnum() and (word[0].isalnum() or word[0] == "-")
                tight += (" " if apart or beside in ('""', "<>", "<=", ">=") else "") + word
            self.check_question(tight, tree)

    def test_numbers_stand_side_by_side_with_keys(self):
        self.check_question("from a where 1=2and 3<>4or-5=a.b show a.b take 1", read(
            "from a where 1 = 2 and 3 <> 4 or -5 = a.b show a.b take 1"))

    def test_aliases_and_tables_are_not_looked_at(self):
        self.assertIsNone(fault_in("from a x, b x where q.r = s.t show nobody.nothing"))


class Bounds(TestCase):
    def question(self, condition):
        return f"from a where {condition} show a.b"

    def test_twenty_tests(self):
        twenty = " and ".join(["1=2"] * 20)
        self.assertIsNone(fault_in(self.question(twenty)))
        for joint in (" and ", " or ", " and (", " or not (", " and not "):
            self.check_fault(self.question(twenty + joint + "3=4" + ")" * joint.count("(")), 13 + len(twenty + joint))
            for operand in ("a.b", "none", '"x"', "-1", ")", "and", "show", "!"):
                self.check_fault(self.question(twenty + joint + operand), 13 + len(twenty + joint))
            self.check_fault(("from a where " + twenty + joint).rstrip(),
                             len(("from a where " + twenty + joint).rstrip()))
            self.check_fault("from a where " + twenty + joint, 13 + len(twenty + joint))
        self.check_fault(self.question(twenty + " 1=2"), 13 + len(twenty) + 1)
        self.check_fault(self.question(twenty + " )"), 13 + len(twenty) + 1)
        self.assertIsNone(fault_in(self.question("(" + twenty + ")")))
        self.assertIsNone(fault_in(self.question(twenty) + " take 5"))

    def test_twenty_brackets_and_not(self):
        for nest in (["("] * 20, ["not "] * 20, ["(", "not "] * 10, ["not ", "not ", "not ", "("] * 5):
            ahead = "".join(nest)
            ends = ")" * ahead.count("(")
            self.assertIsNone(fault_in(self.question(ahead + "1=2" + ends)))
            for word in ("(", "not "):
                self.check_fault(self.question(ahead + word + "1=2" + ends), 13 + len(ahead))
                self.check_fault(self.question(ahead + "1=2" + ends + " and " + word + "3=4"),
                                 13 + len(ahead + ends) + 8)
                self.check_fault("from a where " + ahead + word, 13 + len(ahead))
            text = ("from a where " + ahead).rstrip()
            self.check_fault(text, len(text))

    def test_twenty_all_over_the_condition(self):
        sides = ["not (1=2)"] * 10
        self.assertIsNone(fault_in(self.question(" or ".join(sides))))
        self.check_fault(self.question(" or ".join(sides) + " or not 1=2"), 13 + len(" or ".join(sides)) + 4)
        self.assertIsNone(fault_in(self.question(" or ".join(sides) + " or 1=2")))

    def test_both_bounds_at_once(self):
        deep = "(" * 20 + "1=1" + "".join([f" {'and' if k % 2 else 'or'} {k}={k})" for k in range(2, 21)]) + ")"
        self.assertIsNone(fault_in(self.question(deep)))
        self.assertEqual(read(self.question(deep))[2], plain_condition(deep))
        deep = "1=1" + "".join([f" or (a.b<{k}" if k % 2 else f" and not {k}=a.b" for k in range(2, 21)]) + ")" * 9
        self.assertIsNone(fault_in(self.question(deep)))
        self.assertEqual(read(self.question(deep))[2], plain_condition(deep))

    def test_three_sources_and_eight_columns(self):
        self.assertIsNone(fault_in("from a, b, c show a.b"))
        self.check_fault("from a, b, c, d show a.b", 12)
        self.check_fault("from a x, b y, c z, d show a.b", 18)
        columns = ", ".join(["a.b"] * 8)
        for ahead in ("from a show ", "from a order by a.b show ", "from a where 1=2 show "):
            self.assertIsNone(fault_in(ahead + columns))
            self.check_fault(ahead + columns + ", a.b", len(ahead + columns))
        orders = ", ".join(["a.b down"] * 8)
        self.assertIsNone(fault_in(f"from a order by {orders} show a.b"))
        self.check_fault(f"from a order by {orders}, a.b show a.b", 16 + len(orders))
        self.check_fault(f"from a order by {columns}, a.b show a.b", 16 + len(columns))

    def test_900_signs(self):
        for length in (899, 900):
            text = "from a show a.b"
            padded = text.replace("show", " " * (length - len(text)) + "show")
            self.assertEqual(len(padded), length)
            self.check_question(padded, read(text))
            self.check_question(padded + " " * 50, read(text))
        padded = "from a " + " " * 880 + "show a.bcdef"
        self.check_question(padded + " ", ("ask", (("a", "a"),), None, (), (("column", "a", "bcdef"),), None))

    def test_a_word_that_ends_behind_the_900th_sign(self):
        for word, rest in (("show", " a.b"), ("x", " show a.b"), ("where", " 1=2 show a.b"), (",", " b show a.b"),
                           ("order", " by a.b")):
            for end in range(895, 910):
                text = "from a".ljust(end - len(word)) + word + rest
                if end > 900:
                    self.check_fault(text, end - len(word))
                else:
                    self.assertGreaterEqual(fault_in(text) or 10 ** 6, end)
        for text, start in (
            ("from a where a.b = " + " " * 860 + '"' + "x" * 40 + '"', 879), ("from a".ljust(898) + "show a.b", 898),
            ("from a".ljust(896) + "show a.b", 901), ("from a".ljust(895) + "show a.b", 900),
            ("from a".ljust(894) + "show a.b", 900),
            ("from a show a.b take".ljust(895) + "123456", 895), ("from a show a.b".ljust(2000) + "take 5", 2000),
        ):
            self.check_fault(text, start)
        self.assertIsNone(fault_in("from a show a.b take".ljust(894) + "123456"))
        self.assertIsNone(fault_in("from a".ljust(892) + "show a.b"))

    def test_the_text_is_over_behind_900_signs(self):
        self.check_fault("from a".ljust(1200), 1200)
        self.check_fault("from a where " + " " * 900, 913)
        self.check_fault(" " * 1000, 1000)
        self.check_question("from a show a.b" + " " * 2000, read("from a show a.b"))
        self.check_fault("from a show a.b" + " " * 2000 + "!", 2015)
        self.check_fault("from a show a.b" + " " * 2000 + "take", 2015)


class Faults(TestCase):
    def test_written_out(self):
        for text, place in (
            ("", 0), ("   ", 3), ("from", 4), ("from ", 5), ("show", 0), ("a", 0), ("From a show a.b", 0),
            ("from a", 6),
            ("from 1 show a.b", 5), ("from from", 5), ("from a b c show a.b", 9), ("from a,", 7), ("from a,, b", 7),
            ("from a where", 12),
            ("from a where show a.b", 13), ("from a where a show a.b", 15), ("from a where a.b show a.b", 17),
            ("from a where a.b = show a.b", 19),
            ("from a where a.b = 1 = 2 show a.b", 21), ("from a where a.b == 1 show a.b", 18),
            ("from a where (a.b = 1 show a.b", 22),
            ("from a where a.b = 1) show a.b", 20), ("from a where (a.b) = 1 show a.b", 17),
            ("from a where not show a.b", 17),
            ("from a where a.b = 1 and show a.b", 25), ("from a where a.b and a.c show a.b", 17),
            ("from a where () show a.b", 14),
            ("from a order a.b show a.b", 13), ("from a order by show a.b", 16),
            ("from a order by a.b down down show a.b", 25),
            ("from a order by a.b, show a.b", 21), ("from a show", 11), ("from a show a", 13), ("from a show a.", 14),
            ("from a show a.b,", 16),
            ("from a show a.b down", 16), ("from a show a.b order by a.b", 16),
            ("from a order by a.b where 1=2 show a.b", 20),
            ("from a show a.b from", 16), ("from a show *", 12), ("from a show b", 13), ("from a show none", 12),
            ("from a show 1", 12),
            ("from a show a.1", 14), ("from a show a.none", 14), ("from a show a.b;", 15), ("from a show a.b\n", 15),
            ("\nfrom a show a.b", 0),
            ("from toolongname show a.b", 5), ("from a where a.b = 01 show a.b", 19),
            ('from a where a.b = "x show a.b', 19),
            ("from a where a.b ! 1 show a.b", 17), ("from a where a.b <> - 1 show a.b", 20),
            ("from a where a.b = -0 show a.b", 19),
            ("from a where not not (not", 25), ("from a where a.b in 1", 17), ("from none show a.b", 5),
            ("from a none show a.b", 7),
            ('from "a" show a.b', 5), ("from a.b show a.b", 6), ("from (a) show a.b", 5),
            ("from a where 1 = 2, 3 = 4 show a.b", 18),
        ):
            self.check_fault(text, place)

    def test_what_is_no_text(self):
        for thing in no_values() + [None, 0, 1, (), ("from a show a.b",), ["from a show a.b"], b"from a show a.b"]:
            with self.assertRaises(TableError) as caught:
                read(thing)
            self.assertIs(type(caught.exception), BadQuestion)

    def test_the_text_cut_off_behind_each_word(self):
        for text in QUESTIONS:
            words = words_in(text)
            for many in range(len(words)):
                word, start = words[many]
                cut = text[:start]
                wanted = plain_fault(words[:many], len(cut))
                if wanted is None:
                    self.assertIsNone(fault_in(cut), cut)
                else:
                    self.check_fault(cut, wanted)

    def test_the_text_cut_off_anywhere(self):
        for text in QUESTIONS:
            for place in range(len(text)):
                cut = text[:place]
                # A text that lost its end is no word, and the fault is at its beginning.
                if cut.count('"') % 2:
                    self.check_fault(cut, cut.rfind('"'))
                elif cut.endswith("-"):
                    self.check_fault(cut, len(cut) - 1)
                else:
                    self.assertEqual(fault_in(cut), plain_fault(words_in(cut), len(cut)), cut)

    def check_words(self, words):
        text = " ".join(words)
        places = []
        place = 0
        for word in words:
            places.append((word, place))
            place += len(word) + 1
        wanted = plain_fault(places, len(text))
        if wanted is None:
            self.assertIsNone(fault_in(text), text)
            read(text)
        else:
            self.check_fault(text, wanted)

    def test_a_word_that_cannot_stand_at_each_place(self):
        for text in QUESTIONS:
            words = [word for word, _ in words_in(text)]
            for place in range(len(words) + 1):
                for word in ALL_WORDS[:-1]:
                    self.check_words(words[:place] + [word] + words[place + 1:])
                    self.check_words(words[:place] + [word] + words[place:])

    def test_a_word_left_out(self):
        for text in QUESTIONS:
            words = [word for word, _ in words_in(text)]
            for place in range(len(words)):
                self.check_words(words[:place] + words[place + 1:])
                swapped = words[place:place + 2][::-1]
                self.check_words(words[:place] + swapped + words[place + 2:])

    def test_words_by_chance(self):
        chance = random.Random(82)
        for _ in range(4000):
            automaton = Automaton()
            words = []
            while len(words) < 60:
                fresh = list(automaton.NEXT[automaton.place])
                if not fresh or chance.random() < 0.02:
                    break
                kind = chance.choice(fresh)
                words.append({"NAME": "x", "COUNT": "5", "BELOW": "-5", "TEXT": '"x"'}.get(kind, kind))
                automaton.goes_on(words[-1])
            self.check_words(words + [chance.choice(ALL_WORDS[:-1])] * chance.randint(0, 1))

    def test_deep_conditions_by_chance(self):
        chance = random.Random(83)
        for _ in range(400):
            text = chance_condition(chance, chance.randint(10, 24), chance.randint(10, 24))
            words = words_in("from a where " + text + " show a.b")
            self.check_words([word for word, _ in words][:chance.choice([len(words), chance.randint(4, len(words))])])


if __name__ == "__main__":
    unittest.main()
