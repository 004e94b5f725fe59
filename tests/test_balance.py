"""tablestore.balance, by the points [2.3], [2.4] and [2.6]: each index on the way is walked cell by cell."""

import random
import unittest

from tablestore.balance import index_from, with_entry, without_entry
from tablestore.ordered import empty_index, entries_of, has_entry, is_index, many_in
from things import check_index, entry_rank


def alike_and_unlike(many):
    """As many unlike entries, of values of all kinds, many of them alike."""
    values = [None, 0, -3, 7, 7000, "", "a", "ab", "~"]
    return [(values[k * k % 9] if k % 3 else k - many // 2, k + 1) for k in range(many)]


def by_turns_from_both_ends(entries):
    turns = []
    for k in range((len(entries) + 1) // 2):
        turns.append(entries[k])
        if len(entries) - 1 - k > k:
            turns.append(entries[len(entries) - 1 - k])
    return turns


def orders_of(entries):
    """The entries in rising, falling and mixed order, by turns from both ends and from the middle."""
    rising = sorted(entries, key=entry_rank)
    mixed = list(rising)
    random.Random(len(entries)).shuffle(mixed)
    ends = by_turns_from_both_ends(rising)
    return [rising, rising[::-1], mixed, ends, ends[::-1]]


class PutAndTaken(unittest.TestCase):
    def run_through(self, coming, going, step):
        """Puts all in, takes all out, and looks at each step-th index on the way; how deep the deepest was."""
        index = empty_index()
        there = set()
        deepest = 0
        for put, row in ((True, coming), (False, going)):
            for k, entry in enumerate(row):
                index = (with_entry if put else without_entry)(index, entry[0], entry[1])
                (there.add if put else there.discard)(entry)
                self.assertIs(has_entry(index, entry[0], entry[1]), put)
                if k % step == 0:
                    deepest = max(deepest, check_index(self, index, there))
                    self.assertEqual(many_in(index), len(there))
            deepest = max(deepest, check_index(self, index, there))
        self.assertEqual(index, empty_index())
        return deepest

    def test_few_entries_in_all_orders(self):
        for many in (1, 2, 3, 8, 9, 16, 17, 33):
            entries = alike_and_unlike(many)
            for coming in orders_of(entries):
                for going in orders_of(entries):
                    self.run_through(coming, going, 1)

    def test_some_hundreds(self):
        entries = alike_and_unlike(330)
        orders = orders_of(entries)
        for place, coming in enumerate(orders):
            for going in (orders[place], orders[(place + 1) % 5], orders[(place + 3) % 5]):
                self.assertGreaterEqual(self.run_through(coming, going, 7), 2)
        self.run_through(orders[2], orders[4], 1)

    def test_some_thousands(self):
        orders = orders_of(alike_and_unlike(4000))
        for place, coming in enumerate(orders):
            self.assertGreaterEqual(self.run_through(coming, orders[(place + 2) % 5], 499), 3)

    def test_many_alike(self):
        for value in (None, 7, "same"):
            for order in orders_of([(value, number) for number in range(1, 200)]):
                self.run_through(order, order, 5)

    def test_puts_and_takes_mixed(self):
        chance = random.Random(31)
        for most in (12, 40, 400):
            index = empty_index()
            there = set()
            for turn in range(1500):
                entry = (chance.choice([None, 1, 2, "a", chance.randint(0, most)]), chance.randint(1, most))
                growing = turn // (most * 2) % 2 == 0
                put = chance.random() < (0.7 if growing else 0.3)
                # Taking out what is there makes the index shrink; what isn't there is tried as well.
                if not put and there and chance.random() < 0.8:
                    entry = chance.choice(sorted(there, key=entry_rank))
                index = (with_entry if put else without_entry)(index, entry[0], entry[1])
                (there.add if put else there.discard)(entry)
                check_index(self, index, there)
                self.assertIs(is_index(index), True)

    def test_numbers_at_the_bounds(self):
        entries = [("a", number) for number in (1, 2, 10 ** 9 - 1, 10 ** 9)]
        check_index(self, index_from(entries), entries)
        index = empty_index()
        for value, number in reversed(entries):
            index = with_entry(index, value, number)
        check_index(self, index, entries)
        for value, number in entries:
            index = without_entry(index, value, number)
        self.assertEqual(index, empty_index())

    def test_indexes_cut_otherwise_than_the_program_cuts_them(self):
        def run_of(start, many):
            return ("leaf", tuple([(0, number) for number in range(start, start + 2 * many, 2)]))

        def branch(cells):
            return ("branch", tuple([(entries_of(cell)[0], cell) for cell in cells]))

        for size in (4, 8):
            for many in (2, 4, 8):
                flat = branch([run_of(2 + 20 * k, size) for k in range(many)])
                deep = branch([branch([run_of(2 + 20 * k, size) for k in range(8 * j, 8 * j + max(many, 4))])
                               for j in range(many)])
                for index in (flat, deep):
                    self.check_each_one_more_and_less(index)

    def check_each_one_more_and_less(self, index):
        entries = entries_of(index)
        check_index(self, index, entries)
        for value, number in entries:
            less = without_entry(index, value, number)
            check_index(self, less, [entry for entry in entries if entry != (value, number)])
            more = with_entry(index, value, number - 1)
            check_index(self, more, entries + [(value, number - 1)])
        last = entries[-1][1] + 1
        check_index(self, with_entry(index, 0, last), entries + [(0, last)])
        self.assertEqual(entries_of(index), entries)
        while entries:
            entry = entries.pop(len(entries) // 3)
            index = without_entry(index, entry[0], entry[1])
            check_index(self, index, entries)


class Equal(unittest.TestCase):
    def test_an_entry_that_is_there_leaves_an_equal_index(self):
        for many in (1, 8, 9, 70, 300):
            entries = alike_and_unlike(many)
            index = index_from(entries)
            for value, number in entries:
                self.assertEqual(with_entry(index, value, number), index)

    def test_an_entry_that_is_not_there_leaves_an_equal_index(self):
        for many in (0, 1, 8, 9, 70, 300):
            index = index_from(alike_and_unlike(many))
            for value, number in ((None, 10 ** 9), (-10 ** 9, 1), ("~~", 1), ("a", many + 1), (0, 500), ("7", 1)):
                self.assertEqual(without_entry(index, value, number), index)


class HandedIn(unittest.TestCase):
    def test_older_indexes_go_on_telling_what_they_told(self):
        chance = random.Random(32)
        index = empty_index()
        there = []
        older = []
        for turn in range(500):
            older.append((index, list(there), repr(index)))
            if there and (chance.random() < 0.3 or turn > 330):
                entry = there.pop(chance.randrange(len(there)))
                index = without_entry(index, entry[0], entry[1])
            else:
                entry = (chance.choice([None, 3, "a", turn]), turn + 1)
                there.append(entry)
                index = with_entry(index, entry[0], entry[1])
        for index, entries, text in older:
            self.assertEqual(repr(index), text)
            self.assertEqual(entries_of(index), sorted(entries, key=entry_rank))

    def test_a_list_that_was_told_stays(self):
        index = index_from(alike_and_unlike(50))
        told = entries_of(index)
        kept = list(told)
        for value, number in kept:
            index = without_entry(index, value, number)
        self.assertEqual(told, kept)


class IndexFrom(unittest.TestCase):
    def test_how_many(self):
        for many in list(range(0, 150)) + [511, 512, 513, 576, 577, 4000]:
            entries = alike_and_unlike(many)
            check_index(self, index_from(entries), entries)

    def test_in_any_order(self):
        for many in (9, 100, 1000):
            for order in orders_of(alike_and_unlike(many)):
                check_index(self, index_from(order), order)

    def test_entries_that_come_several_times(self):
        for many in (1, 4, 8, 9, 100):
            entries = alike_and_unlike(many)
            chance = random.Random(many)
            more = entries + entries[::-1] + entries[:3] * 5
            for _ in range(4):
                check_index(self, index_from(more), entries)
                chance.shuffle(more)
        check_index(self, index_from([(None, 1)] * 30), [(None, 1)])

    def test_no_entries(self):
        self.assertEqual(index_from([]), empty_index())

    def test_the_list_handed_in_stays_and_may_be_changed_behind_the_call(self):
        for many in (0, 5, 100):
            entries = alike_and_unlike(many)[::-1]
            kept = list(entries)
            index = index_from(entries)
            self.assertEqual(entries, kept)
            text = repr(index)
            entries.append(("more", 1))
            entries[0] = (None, 99)
            self.assertEqual(repr(index), text)
            check_index(self, index, kept)


if __name__ == "__main__":
    unittest.main()
