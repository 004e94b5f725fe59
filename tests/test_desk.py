"""tablestore.desk, by the points [8.1] to [8.4], and with it [3] over the whole program."""

import random
import unittest

from tablestore.desk import Desk, answered
from tablestore.errors import Clash
from tablestore.journals import ends_in, log_of, read_records
from tablestore.stores import begin, store_of
from things import Asker, asked, plain_answer

PEOPLE = ("people", (("name", "text"), ("age", "number")))
PETS = ("pets", (("kind", "text"), ("owner", "number")))

BEGUN = [
    "begin a", "a make people name text age number", 'a put people "ann" 31', 'a put people "b""ea" none',
    "a order people age",
    "a keep",
]
BEGUN_LOG = (
    "000000099\ntable people name text age number\nput people 1 \"ann\" 31\nput people 2 \"b\"\"ea\" none\n"
    "index people age\nend\n"
)


def values_text(values):
    words = ["none" if value is None else f'"{value}"' if isinstance(value, str) else str(value) for value in values]
    return " ".join(words)


class TestCase(unittest.TestCase):
    def setUp(self):
        self.desk = Desk()

    def say(self, *rows):
        """Says rows to the desk, each with the texts that it is to answer."""
        for row, texts in rows:
            told = self.desk.say(row)
            self.assertIs(type(told), list)
            self.assertEqual(told, texts if isinstance(texts, list) else [texts], row)

    def begun(self):
        for row in BEGUN:
            self.desk.say(row)
        self.assertEqual(self.desk.log(), BEGUN_LOG)

    def check_no_sense(self, *rows):
        for row in rows:
            before = self.desk.log()
            self.say((row, "what?"))
            self.assertEqual(self.desk.log(), before)


class Rows(TestCase):
    def test_written_out(self):
        self.say(
            ("begin ann", "begun"),
            ("ann make people name text age number", "done"),
            ('ann put people "cid" 7', "row 1"),
            ('ann put people "dan" none', "row 2"),
            ("ann order people age", "done"),
            ("ann ask from people p order by p.age show p.age, p.name", ['none "dan"', '7 "cid"']),
            ('ann change people 2 "dan" 8', "done"),
            ("ann ask from people p where p.age > 7 show p.name", ['"dan"']),
            ("ann drop people 1", "done"),
            ("ann ask from people p where p.age < 8 show p.name", "no rows"),
            ("ann keep", "kept 1"),
            ("ann keep", "refused: no dealing"),
            ("begin ann", "begun"),
            ("ann leave", "left"),
        )
        self.assertEqual(
            self.desk.log(),
            '000000131\ntable people name text age number\nput people 1 "cid" 7\nput people 2 "dan" none\n'
            'index people age\nput people 2 "dan" 8\ndrop people 1\nend\n')

    def test_a_new_desk(self):
        self.assertEqual(Desk().log(), "")
        one, other = Desk(), Desk()
        one.say("begin a")
        one.say("a make t x text")
        one.say("a keep")
        self.assertEqual(other.log(), "")
        self.assertEqual(other.say("a keep"), ["refused: no dealing"])

    def test_several_dealings(self):
        self.begun()
        self.say(
            ("begin a", "begun"), ("begin b", "begun"), ("begin c", "begun"), ("begin b", "refused: open"),
            ('a change people 1 "ann" 32', "done"), ('b put people "new" 1', "row 3"), ("c drop people 1", "done"),
            ("c ask from people p show p.name", ['"b""ea"']), ("b ask from people p show p.name",
                                                               ['"ann"', '"b""ea"', '"new"']),
            ("a ask from people p show p.age", ["32", "none"]), ("a keep", "kept 2"),
            ("b ask from people p show p.age", ["31", "none", "1"]), ("c ask from people p show p.age", ["none"]),
            ("b keep", "kept 3"), ("c keep", "refused: clash"), ("c keep", "refused: no dealing"), ("begin c", "begun"),
            ("c ask from people p show p.age", ["32", "none", "1"]), ("c keep", "kept 3"),
        )

    def test_kept_counts_what_stands_in_the_row(self):
        self.say(("begin a", "begun"), ("begin b", "begun"), ("a keep", "kept 0"), ("b make t x text", "done"),
                 ("b keep", "kept 1"),
                 ("begin a", "begun"), ("a keep", "kept 1"))

    def test_a_name_is_free_again(self):
        self.begun()
        self.say(("begin a", "begun"), ("a leave", "left"), ("a leave", "refused: no dealing"), ("begin a", "begun"),
                 ("begin a", "refused: open"), ("a keep", "kept 1"), ("begin a", "begun"), ("a leave", "left"))
        self.assertEqual(self.desk.log(), BEGUN_LOG)

    def test_what_is_left_leaves_nothing_but_its_numbers(self):
        self.begun()
        self.say(("begin a", "begun"), ('a put people "x" 1', "row 3"), ("a make pets kind text", "done"),
                 ("a leave", "left"),
                 ("begin b", "begun"), ('b put people "x" 1', "row 4"), ('b put pets "x"', "refused: no table"),
                 ("b keep", "kept 2"))

    def test_values_as_the_log_writes_them(self):
        self.begun()
        self.say(
            ("begin a", "begun"), ('a put people "put t 1 2" -5', "row 3"), ('a put people "a  b " none', "row 4"),
            ('a put people "" 0', "row 5"), ("a ask from people p where p.age <> 31 show p.name, p.age",
                                             ['"b""ea" none', '"put t 1 2" -5', '"a  b " none', '"" 0']))

    def test_tables_of_eight_columns(self):
        columns = " ".join([f"{letter} number" for letter in "abcdefgh"])
        shown = ", ".join([f"w.{letter}" for letter in "abcdefgh"])
        self.say(("begin x", "begun"), (f"x make wide {columns}", "done"), ("x put wide 1 2 3 4 5 6 7 8", "row 1"),
                 (f"x ask from wide w show {shown}", "1 2 3 4 5 6 7 8"))
        self.check_no_sense(f"x make more {columns} i text", "x put wide 1 2 3 4 5 6 7 8 9")
        self.say(("x put wide 1 2 3 4 5 6 7", "refused: row"))


class Names(TestCase):
    def test_names_of_dealings(self):
        for name in ("a", "abcdefgh", "ask", "keep", "leave", "make", "put", "table", "end", "up", "what", "stops",
                     "beg"):
            self.say((f"begin {name}", "begun"), (f"begin {name}", "refused: open"), (f"{name} keep", "kept 0"))

    def test_no_names(self):
        self.check_no_sense(
            "begin", "begin ", "begin begin", "begin stop", "begin none", "begin and", "begin from",
            "begin toolongname", "begin A",
            "begin a1", "begin a b", "begin a ", "begin  a", " begin a", "begin 1", "begin \u00e4", "Begin a",
            "BEGIN a",
            "begin\ta", "begin a\t", "begin a.", 'begin "a"')
        self.assertEqual(self.desk.say("a keep"), ["refused: no dealing"])

    def test_first_words_that_are_no_names(self):
        self.check_no_sense("none keep", "and keep", "toolongname keep", "A keep", " keep", "", " ", "  ", "1 keep",
                            "a1 keep", "where",
                            '"a" keep', "what?", "order people age", "take 5", "-", "a\tkeep", "a. keep")

    def test_no_dealing(self):
        self.begun()
        for row in ("b", "b ", "b keep", "b leave", "b ask", "b ask x", "b nonsense", "b  keep", "b put people 1",
                    "a keep", "a", "keep",
                    "put people 1", "make t x text", "ask from people p show p.age", "leave", "beginn a", "stops 1",
                    "b make none none"):
            self.say((row, "refused: no dealing"))


class NoSense(TestCase):
    def setUp(self):
        TestCase.setUp(self)
        self.begun()
        self.say(("begin x", "begun"))

    def test_other_words(self):
        self.check_no_sense(
            "x", "x ", "x  ", "x nonsense", "x Keep", "x keeps", "x kee", "x keep ", "x  keep", "x keep now",
            "x leave ", "x leav",
            "x leaves", "x leave x", "x LEAVE", "x  leave", "x begin", "x begin y", "x stop 1", "x x", "x x keep",
            "x row 1", "x show",
            "x table t a text", "x index people name", "x change", "x drop", "x order", "x make", "x put", "x end",
            "x what?", "x \u00e4")

    def test_make(self):
        self.check_no_sense(
            "x make ", "x make t", "x make t ", "x make t a", "x make t a none", "x make t a text b",
            "x make t a text a text",
            "x make none a text", "x make t none text", "x make t a text ", "x make  t a text", "x  make t a text",
            "x make t  a text",
            "x make toolongname a text", "x make T a text", "x makes t a text", "x mak t a text", "x make t a Text",
            "x make t a text\t")

    def test_order(self):
        self.check_no_sense(
            "x order ", "x order people", "x order people ", "x order people name ", "x order people name age",
            "x order  people name",
            "x order people  name", "x order none name", "x order people none", "x order people Name",
            "x orders people name",
            "x orde people name", "x order people.name", "x order people 1", "x order by people name")

    def test_put(self):
        self.check_no_sense(
            "x put ", "x put people", "x put people ", "x put people  1", "x put  people 1", 'x put people "a" 1 ',
            'x put people "a"  1',
            'x put people "a', "x put people a 1", "x put people 01", "x put people -0", "x put people none,1",
            'x put none "a" 1',
            'x puts people "a" 1', 'x pu people "a" 1', "x put toolongname 1", "x put people " + "9" * 19,
            'x put people "' + "y" * 41 + '" 1',
            "x put people 1 2 3 4 5 6 7 8 9", 'x put people "\u00e4" 1', 'x put people "a"1', 'x put "people" 1',
            "x put people None 1")

    def test_change(self):
        self.check_no_sense(
            "x change people", "x change people 1", "x change people 1 ", 'x change people "ann" 31 ',
            'x change people 01 "ann" 31',
            'x change people 0 "ann" 31', 'x change people -1 "ann" 31', 'x change people one "ann" 31',
            'x change people none "ann" 31',
            'x change people 1  "ann" 31', 'x change  people 1 "ann" 31', 'x change people  1 "ann" 31',
            'x change none 1 "ann" 31',
            'x change people 1 "ann" 31 ', 'x changes people 1 "ann" 31', 'x chang people 1 "ann" 31',
            "x change people 1 ann 31",
            "x change people 1 1 2 3 4 5 6 7 8 9", 'x change people 1 "ann" 031', 'x change people "1" "ann" 31')

    def test_drop(self):
        self.check_no_sense(
            "x drop ", "x drop people", "x drop people ", "x drop people 1 ", "x drop people  1", "x drop  people 1",
            "x drop people 01",
            "x drop people 0", "x drop people -1", "x drop people one", "x drop people 1 1", "x drop none 1",
            "x drops people 1",
            "x dro people 1", 'x drop people "1"', "x drop people none", "x drop people \u0661")

    def test_ask(self):
        self.check_no_sense("x ask", "x asks from people p show p.age", "x as from people p show p.age",
                            "x askfrom people p show p.age",
                            "x Ask from people p show p.age", "x  ask from people p show p.age",
                            "x ask\tfrom people p show p.age")

    def test_stop(self):
        self.check_no_sense("stop", "stop ", "stop a", "stop -1", "stop 01", "stop 00", "stop 000000", "stop 1000000",
                            "stop 1 ", "stop  1",
                            "stop 1 1", " stop 1", "Stop 1", "stop +1", "stop 1.0", "stop none", 'stop "1"',
                            "stop \u0661", "stop 1_0",
                            "stop all", "stop " + "9" * 5000)
        self.say(("x ask from people p show p.age", ["31", "none"]))

    def test_nothing_of_it_changes_the_dealing(self):
        for row in ("x make t a none", 'x put people "a', "x drop people 0", "x keep ", "x leave ", "stop",
                    "begin x y", "", "x ask"):
            self.check_no_sense(row)
        self.say(('x put people "a" 1', "row 3"), ("x keep", "kept 2"))
        self.assertEqual(self.desk.log(), BEGUN_LOG + '000000019\nput people 3 "a" 1\nend\n')


class Refused(TestCase):
    def setUp(self):
        TestCase.setUp(self)
        self.begun()
        self.say(("begin x", "begun"))

    def test_each_by_its_words(self):
        self.say(
            ("x make people name text", "refused: table there"), ("x order nobody name", "refused: no table"),
            ("x order people kind", "refused: no column"), ("x order people people", "refused: no column"),
            ("x order people age", "refused: index there"), ("x put nobody 1", "refused: no table"),
            ('x put people "a"', "refused: row"),
            ('x put people 1 "a"', "refused: row"), ("x put people 1 2 3", "refused: row"),
            ("x change nobody 1 1", "refused: no table"),
            ('x change people 3 "a" 1', "refused: no row"), ("x change people 3 1", "refused: no row"),
            ("x change people 1 1", "refused: row"),
            ("x change people 1000000000 1", "refused: no row"), ("x drop nobody 1", "refused: no table"),
            ("x drop people 3", "refused: no row"),
            ("x ask from nobody show nobody.x", "refused: no table"), ("x ask from people show people.kind",
                                                                       "refused: no column"),
            ("x ask from people p, people p show p.age", "refused: question"),
            ("x ask from people p show people.age", "refused: question"),
            ("x ask from people show people.age down", "refused: question at 28"), ("begin x", "refused: open"),
        )
        # None of them has changed anything, nor taken a number.
        self.say(('x put people "a" 1', "row 3"), ("x keep", "kept 2"))
        self.assertEqual(self.desk.log(), BEGUN_LOG + '000000019\nput people 3 "a" 1\nend\n')

    def test_places_of_faults(self):
        for question, place in (("", 0), (" ", 1), ("   ", 3), ("x", 0), (" x", 1), ("from", 4),
                                ("  from people  show", 19),
                                ("from people p where p.age = 01 show p.age", 28), ("from people p show p.age;", 24),
                                ("from people p show p.age take -1",
                                 30), ('from people p where p.name = "x show p.age', 29),
                                ("from people p show p.age\t", 24), ("from people p show p.age \u00e4", 25)):
            self.say((f"x ask {question}", f"refused: question at {place}"))

    def test_blanks_in_questions(self):
        for question in ("from people p show p.age", "  from people p show p.age", "from   people p   show p . age   "):
            self.say((f"x ask {question}", ["31", "none"]))
        self.say(('x ask from people p where p.name = "a  b" show p.age', "no rows"))

    def test_clash(self):
        self.say(("begin y", "begun"), ("x drop people 1", "done"), ("y drop people 1", "done"),
                 ('y put people "n" 1', "row 3"),
                 ("x keep", "kept 2"), ("y keep", "refused: clash"), ("y ask from people p show p.age",
                                                                      "refused: no dealing"),
                 ("begin y", "begun"), ("y ask from people p show p.age", "none"), ('y put people "n" 1', "row 4"))

    def test_tables_made_by_two(self):
        self.say(("begin y", "begun"), ("x make t a text", "done"), ("y make t b number", "done"), ("y keep", "kept 2"),
                 ("x keep", "refused: clash"), ("begin x", "begun"), ("x put t 5", "row 3"),
                 ("x make t a text", "refused: table there"))

    def test_no_rows(self):
        self.say(("x ask from people p where 1 = 2 show p.age", "no rows"), ("x ask from people p show p.age take 0",
                                                                             "no rows"),
                 ("x make t a text", "done"), ("x ask from t show t.a", "no rows"),
                 ("x ask from t, people show t.a", "no rows"))


class Stops(TestCase):
    LOG_ROWS = ["begin a", 'a put people "c" 1', "a keep", "begin a", "a drop people 1", "a keep", "begin a",
                "a make t x text", "a keep"]

    def grown(self):
        self.desk = Desk()
        self.begun()
        for row in self.LOG_ROWS:
            self.desk.say(row)
        return self.desk.log()

    def test_after_each_number_of_signs(self):
        log = self.grown()
        ends = ends_in(log)
        self.assertEqual(len(ends), 4)
        for many in list(range(len(log) + 3)) + [999999]:
            self.grown()
            left = max(len(log) - many, 0)
            whole = len([end for end in ends if end <= left])
            self.say(("begin x", "begun"), (f"stop {many}", f"up {whole}"), ("x keep", "refused: no dealing"))
            self.assertEqual(self.desk.log(), log[:([0] + ends)[whole]])

    def test_of_nothing(self):
        self.say(("stop 0", "up 0"), ("stop 5", "up 0"), ("stop 999999", "up 0"))
        self.assertEqual(self.desk.log(), "")

    def test_all_dealings_are_closed(self):
        self.begun()
        self.say(("begin x", "begun"), ("begin y", "begun"), ('x put people "z" 5', "row 3"), ("stop 0", "up 1"),
                 ("x keep", "refused: no dealing"), ("y leave", "refused: no dealing"), ("begin x", "begun"),
                 # What was given by a dealing that is gone stands in no record.
                 ('x put people "z" 5', "row 3"), ("x ask from people p show p.age", ["31", "none", "5"]))

    def test_the_store_goes_on_from_what_is_left(self):
        log = self.grown()
        self.say(("stop 1", "up 3"), ("begin x", "begun"), ("x make t y number", "done"), ("x put t 7", "row 4"),
                 ("x ask from people p show p.name", ['"b""ea"', '"c"']), ("x keep", "kept 4"), ("stop 0", "up 4"),
                 ("begin x", "begun"), ("x ask from t show t.y", "7"), ("x order people age", "refused: index there"))
        self.assertTrue(self.desk.log().startswith(log[:ends_in(log)[2]]))

    def test_of_a_whole_record(self):
        log = self.grown()
        ends = ends_in(log)
        self.say((f"stop {len(log) - ends[2]}", "up 3"), (f"stop {ends[2] - ends[1] + 1}", "up 1"), ("stop 1", "up 0"))
        self.assertEqual(self.desk.log(), "")


class Answered(unittest.TestCase):
    def test_texts(self):
        self.assertEqual(answered("begin a"), ["begun"])
        self.assertEqual(answered("begin a\na keep"), ["begun", "kept 0"])
        self.assertEqual(answered("begin a\na keep\n"), ["begun", "kept 0", "what?"])
        self.assertEqual(answered(""), ["what?"])
        self.assertEqual(answered("\n"), ["what?", "what?"])
        self.assertEqual(answered("\n\nbegin a\n\n"), ["what?", "what?", "begun", "what?", "what?"])
        self.assertEqual(answered("begin a\r\nbegin b"), ["what?", "begun"])
        self.assertEqual(answered("begin a\x0bbegin b"), ["what?"])
        self.assertEqual(answered("begin a\x1cbegin b\u2028"), ["what?"])

    def test_all_answers_in_one_list(self):
        text = "\n".join(BEGUN + ["begin a", "a ask from people p show p.age",
                                  "a ask from people p where 1 = 2 show p.age", "stop 5"])
        wanted = ["begun", "done", "row 1", "row 2", "done", "kept 1", "begun", "31", "none", "no rows", "up 0"]
        self.assertEqual(answered(text), wanted)
        self.assertEqual(answered(text), wanted)

    def test_lists_are_the_askers_own(self):
        desk = Desk()
        for row in BEGUN + ["begin a"]:
            desk.say(row).append("more")
        told = desk.say("a ask from people p show p.age")
        desk.say("a drop people 1")
        self.assertEqual(told, ["31", "none"])
        told.clear()
        self.assertEqual(desk.say("a ask from people p show p.age"), ["none"])


class ByChance(unittest.TestCase):
    """Desks told rows by chance, against the store and its dealings beneath, which have tests of their own."""

    def test_by_chance(self):
        for seed in range(25):
            self.run_desk(random.Random(seed))

    def run_desk(self, chance):
        desk = Desk()
        asker = Asker(chance, [PEOPLE, PETS])
        store = store_of([])
        going = {}
        for _ in range(150):
            self.assertEqual(desk.log(), log_of(store))
            name = chance.choice("abcd")
            turn = chance.random()
            if turn < 0.01:
                log = log_of(store)
                many = chance.randint(0, 200)
                store = store_of(read_records(log[:max(len(log) - many, 0)]))
                going = {}
                self.assertEqual(desk.say(f"stop {many}"), [f"up {store.many()}"])
            elif turn < 0.15 or not going:
                self.assertEqual(desk.say(f"begin {name}"), ["refused: open" if name in going else "begun"])
                if name not in going:
                    going[name] = begin(store)
            elif name not in going:
                self.assertEqual(desk.say(f"{name} keep"), ["refused: no dealing"])
            elif turn < 0.25:
                self.end(chance, desk, going, name)
            elif turn < 0.5:
                self.ask(desk, going[name], name, asker.question(2))
            else:
                self.do(chance, desk, going[name], name)

    def end(self, chance, desk, going, name):
        dealing = going.pop(name)
        if chance.random() < 0.2:
            dealing.leave()
            self.assertEqual(desk.say(f"{name} leave"), ["left"])
            return
        try:
            wanted = f"kept {dealing.keep()}"
        except Clash:
            wanted = "refused: clash"
        self.assertEqual(desk.say(f"{name} keep"), [wanted])

    def ask(self, desk, dealing, name, question):
        view = dealing.view()
        told = desk.say(f"{name} ask {question}")
        if any(shape[0] not in view and f"{shape[0]} " in question for shape in (PEOPLE, PETS)):
            self.assertEqual(told, ["refused: no table"])
            return
        rows = [values_text(row) for row in plain_answer(asked(question, view), view)]
        self.assertEqual(told, rows or ["no rows"])

    def do(self, chance, desk, dealing, name):
        shape = chance.choice([PEOPLE, PETS])
        table = shape[0]
        if table not in dealing.view():
            dealing.make(shape)
            columns = " ".join([" ".join(column) for column in shape[1]])
            self.assertEqual(desk.say(f"{name} make {table} {columns}"), ["done"])
            return
        values = [chance.choice([None, "a", "b"]), chance.choice([None, 0, 1, 2])]
        text = values_text(values)
        numbers = sorted(dealing.view()[table].rows)
        free = [column for column, _ in shape[1] if column not in dealing.view()[table].indexes]
        turn = chance.random()
        if turn < 0.1 and free:
            dealing.order_by(table, free[0])
            self.assertEqual(desk.say(f"{name} order {table} {free[0]}"), ["done"])
        elif turn < 0.3 and numbers:
            dealing.drop(table, numbers[0])
            self.assertEqual(desk.say(f"{name} drop {table} {numbers[0]}"), ["done"])
        elif turn < 0.5 and numbers:
            dealing.change(table, numbers[-1], tuple(values))
            self.assertEqual(desk.say(f"{name} change {table} {numbers[-1]} {text}"), ["done"])
        else:
            number = dealing.put(table, tuple(values))
            self.assertEqual(desk.say(f"{name} put {table} {text}"), [f"row {number}"])


if __name__ == "__main__":
    unittest.main()
