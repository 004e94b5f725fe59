"""tablestore.journals, by the points [5.2] to [5.6] and [3] (d)."""

import random
import unittest

from tablestore.errors import BadLog, Clash, TableError
from tablestore.journals import ends_in, log_of, read_records, risen
from tablestore.records import record
from tablestore.stores import Store, begin, store_of
from things import plain_state

PEOPLE = ("people", (("name", "text"), ("age", "number")))

ROWS = [
    [("table", PEOPLE), ("put", "people", 4, ("ann", 31)), ("put", "people", 2, ('b"ea', None))],
    [("index", "people", "age")],
    [("put", "people", 4, ("end", -7)), ("drop", "people", 2), ("put", "people", 9, ("", 0))],
    [("drop", "people", 9)],
]

LOG = (
    "000000082\ntable people name text age number\nput people 4 \"ann\" 31\nput people 2 \"b\"\"ea\" none\nend\n"
    "000000017\nindex people age\nend\n"
    "000000054\nput people 4 \"end\" -7\ndrop people 2\nput people 9 \"\" 0\nend\n"
    "000000014\ndrop people 9\nend\n"
)

ENDS = [96, 127, 195, 223]


def body_record(body, end="end\n"):
    return str(len(body)).zfill(9) + "\n" + body + end


class TestCase(unittest.TestCase):
    def check_refused(self, *texts):
        for text in texts:
            for reading in (read_records, ends_in, risen):
                with self.assertRaises(TableError) as caught:
                    reading(text)
                self.assertIs(type(caught.exception), BadLog, text[:60])

    def check_read(self, text, rows, ends):
        self.assertEqual(repr(read_records(text)), repr(rows))
        self.assertEqual(ends_in(text), ends)

    def check_same_store(self, store, other):
        self.assertEqual(store.many(), other.many())
        for k in range(store.many()):
            self.assertEqual(store.changes(k), other.changes(k))
        for k in range(store.many() + 1):
            self.assertEqual(plain_state(store.state(k)), plain_state(other.state(k)))
        self.assertEqual(plain_state(store.newest()), plain_state(other.newest()))


class Reading(TestCase):
    def test_written_out(self):
        self.assertEqual("".join([record(row) for row in ROWS]), LOG)
        self.check_read(LOG, ROWS, ENDS)
        self.check_read("", [], [])

    def test_cut_off_at_every_place(self):
        for place in range(len(LOG) + 1):
            whole = len([end for end in ENDS if end <= place])
            self.check_read(LOG[:place], ROWS[:whole], ENDS[:whole])

    def test_what_is_torn_is_not_looked_at(self):
        for ahead, rows, ends in (("", [], []), (LOG, ROWS, ENDS)):
            for torn in ("000000009\n", "000000009\nxxxxxxxxx", "000000009\nxxxxxxxxxend", "000000009\ndrop t 5\nEND",
                         "000000005\n\n\n\n\nabc", "000000000\n", "000000000\nxyz", "000000000\nend",
                         "999999999\n" + "\u00e4" * 50,
                         "000000100\n" + LOG[:103], "000000009\n000000009\n", "000000020\ndrop t 5\nend\nxxxxxx",
                         "999999999\n"):
                self.check_read(ahead + torn, rows, ends)

    def test_texts_shorter_than_ten_signs(self):
        for many in range(10):
            for ahead, rows, ends in (("", [], []), (LOG, ROWS, ENDS)):
                self.check_read(ahead + "0123456789"[:many][:9], rows, ends)
                self.check_read(ahead + "9" * many, rows, ends)
                for place in range(many):
                    for sign in (" ", "a", "-", "\n", "\u0661", "\u00b2", "x"):
                        text = "000000000"[:place] + sign + "000000000"[place + 1:many]
                        self.check_refused(ahead + text)

    def test_heads_that_are_not_figures_and_a_line_end(self):
        good = "drop t 5\nend\n"
        self.check_read("000000009\n" + good, [[("drop", "t", 5)]], [23])
        for head in ("000000009 ", "0000000009", "000000009\r", "00000009\n\n", " 00000009\n", "+00000009\n",
                     "-00000009\n",
                     "00000000a\n", "00000000 9", "000000_09\n", "00000009\nd", "9\ndrop t 5", "\u0660" * 9 + "\n",
                     "0x0000009\n"):
            self.check_refused(head + good, LOG + head + good, head, LOG + head)

    def test_whole_records_whose_body_is_not_lines_of_changes(self):
        for body in ("", "\n", "drop t 5", "drop t 5\n\n", "\ndrop t 5\n", "drop t 5\ndrop t 6", "drop t 05\n",
                     "drop t 5\r\n",
                     "drop t 5 \n", "xxx\n", "end\n", "drop t 5\nend\n", "put t 1\n", "put t 1 \"a\nb\"\n",
                     "drop t 5\n \n",
                     "table t a none\n", "drop t 5\x0bdrop t 6\n", "drop t 5\u2028", "put t 1 1 2 3 4 5 6 7 8 9\n"):
            self.check_refused(body_record(body), LOG + body_record(body), body_record(body) + LOG)

    def test_whole_records_without_their_end(self):
        for end in ("End\n", "end ", "end\r", "ende", "\nend", "xxxx", "nd\n\n", "0000"):
            self.check_refused(body_record("drop t 5\n", end), LOG + body_record("drop t 5\n", end))

    def test_sizes_that_are_wrong(self):
        # One less, and the body's last line has no end; some more, and the next record stands where the end should be.
        self.check_refused("000000008\ndrop t 5\nend\n", "000000010\ndrop t 5\nend\n" + LOG)
        self.check_read("000000010\ndrop t 5\nend\n", [], [])

    def test_a_fault_ahead_of_a_torn_record(self):
        self.check_refused(body_record("xxx\n") + "000000009\n", body_record("") + "00000")

    def test_lists_that_are_told_are_the_askers_own(self):
        told = read_records(LOG)
        told[0].clear()
        told.append("more")
        ends = ends_in(LOG)
        ends.clear()
        self.check_read(LOG, ROWS, ENDS)
        held = read_records(LOG)
        risen(LOG)
        self.assertEqual(held, ROWS)


class Rising(TestCase):
    def test_the_log_of_a_store(self):
        self.assertEqual(log_of(Store()), "")
        self.assertEqual(log_of(store_of([])), "")
        self.assertEqual(log_of(store_of(ROWS)), LOG)
        self.assertEqual(log_of(store_of([[], ROWS[0], []] + ROWS[1:] + [[]])), LOG)

    def test_a_store_comes_up_from_its_log(self):
        self.check_same_store(risen(LOG), store_of(ROWS))
        self.check_same_store(risen(""), Store())
        self.assertEqual(log_of(risen(LOG)), LOG)

    def test_from_a_log_cut_off_at_every_place(self):
        stores = [store_of(ROWS[:many]) for many in range(5)]
        greatest = [0, 4, 4, 9, 9]
        for place in range(len(LOG) + 1):
            whole = len([end for end in ENDS if end <= place])
            store = risen(LOG[:place])
            self.check_same_store(store, stores[whole])
            self.assertEqual(store.greatest(), greatest[whole])
            self.assertEqual(log_of(store), LOG[:([0] + ENDS)[whole]])

    def test_the_next_number_given(self):
        for many, number in ((1, 5), (2, 5), (3, 10), (4, 10)):
            store = risen("".join([record(row) for row in ROWS[:many]]))
            self.assertEqual(begin(store).put("people", ("new", 1)), number)

    def test_numbers_that_no_record_has_may_be_given_again(self):
        store = store_of(ROWS)
        left = begin(store)
        self.assertEqual(left.put("people", ("x", 1)), 10)
        left.leave()
        self.assertEqual(begin(store).put("people", ("x", 1)), 11)
        self.assertEqual(begin(risen(log_of(store))).put("people", ("x", 1)), 10)

    def test_changes_that_cannot_be_done(self):
        for row in (
            [("drop", "people", 2)], [("table", PEOPLE)], [("index", "people", "age")], [("index", "people", "kind")],
            [("index", "pets", "kind")], [("put", "pets", 1, ("a",))], [("put", "people", 1, ("a",))],
            [("put", "people", 1, (1, 1))], [("drop", "people", 9), ("drop", "people", 9)],
        ):
            text = LOG[:195] + record(row)
            self.assertEqual(read_records(text), ROWS[:3] + [row])
            with self.assertRaises(TableError) as caught:
                risen(text)
            self.assertIs(type(caught.exception), BadLog)
            # Torn, it is not looked at.
            self.assertEqual(risen(text[:-1]).many(), 3)
        with self.assertRaises(BadLog):
            risen(record(ROWS[1]))

    def test_the_log_only_grows_at_its_end(self):
        store = store_of(ROWS)
        log = log_of(store)
        for turn in range(10):
            dealing = begin(store)
            dealing.put("people", (str(turn), turn))
            self.assertEqual(log_of(store), log)
            if turn % 3 == 0:
                dealing.leave()
                self.assertEqual(log_of(store), log)
            else:
                changes = dealing.mine()
                dealing.keep()
                self.assertEqual(log_of(store), log + record(changes))
                log = log_of(store)

    def test_stores_by_chance_and_their_logs_cut_anywhere(self):
        chance = random.Random(71)
        for _ in range(12):
            store = Store()
            first = begin(store)
            first.make(PEOPLE)
            first.keep()
            for _ in range(12):
                one, other = begin(store), begin(store)
                for dealing in (one, other):
                    for _ in range(chance.randint(0, 3)):
                        numbers = sorted(dealing.view()["people"].rows)
                        row = (chance.choice([None, "", 'q"', "a b", "end"]), chance.choice([None, -5, 0, 7]))
                        if numbers and chance.random() < 0.5:
                            if chance.random() < 0.5:
                                dealing.drop("people", chance.choice(numbers))
                            else:
                                dealing.change("people", chance.choice(numbers), row)
                        else:
                            dealing.put("people", row)
                    for column in ("name", "age"):
                        if column not in dealing.view()["people"].indexes and chance.random() < 0.1:
                            dealing.order_by("people", column)
                for dealing in (one, other):
                    try:
                        dealing.keep()
                    except Clash:
                        pass
            log = log_of(store)
            self.check_same_store(risen(log), store)
            ends = ends_in(log)
            self.assertEqual(len(ends), store.many())
            for place in [chance.randrange(len(log)) for _ in range(25)] + ends + [end - 1 for end in ends]:
                whole = len([end for end in ends if end <= place])
                up = risen(log[:place])
                self.assertEqual(up.many(), whole)
                self.check_same_store(up, store_of([store.changes(k) for k in range(whole)]))
                self.assertEqual(plain_state(up.newest()), plain_state(store.state(whole)))


if __name__ == "__main__":
    unittest.main()
