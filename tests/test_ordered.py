"""tablestore.ordered, by the points [2.1], [2.2], [2.3], [2.5] and [2.7], on cells that are written out here."""

import itertools
import random
import unittest

from tablestore.ordered import comes_ahead, empty_index, entries_of, has_entry, is_index, many_in, stretch
from things import Cross, Yes, check_index, entry_rank, many_things, rank

VALUES = [None, -10 ** 18 + 1, -2, -1, 0, 1, 2, 10, 10 ** 18 - 1, "", " ", "1", "A", "a", "aa", "b", "~" * 40]
NUMBERS = [1, 2, 3, 9, 10, 10 ** 9 - 1, 10 ** 9]


def leaf(*entries):
    return ("leaf", tuple(entries))


def first(cell):
    return cell[1][0] if cell[0] == "leaf" else cell[1][0][0]


def branch(*cells):
    return ("branch", tuple([(first(cell), cell) for cell in cells]))


def run_of(start, many):
    """A leaf with entries whose numbers rise from start on."""
    return leaf(*[(5, number) for number in range(start, start + many)])


def tree_of(sizes, start=1):
    """A branch of leaves of these sizes."""
    leaves = []
    for size in sizes:
        leaves.append(run_of(start, size))
        start += size
    return branch(*leaves)


def cut_somehow(things, chance):
    """Things cut into rows of 4 to 8 each, by chance; at least 8 of them."""
    rows = []
    while len(things) > 8:
        many = chance.choice([size for size in range(4, 9) if len(things) - size >= 4])
        rows.append(things[:many])
        things = things[many:]
    return rows + [things]


def index_somehow(entries, chance):
    """An index of these entries, cut into cells in one of the ways that [2.3] allows."""
    entries = sorted(set(entries), key=entry_rank)
    if len(entries) <= 8 and chance.random() < 0.8 or len(entries) < 8:
        return leaf(*entries)
    cells = [leaf(*row) for row in (cut_somehow(entries, chance) if len(entries) > 8 else [entries[:4], entries[4:]])]
    while len(cells) > 8 or len(cells) == 8 and chance.random() < 0.3:
        rows = cut_somehow(cells, chance) if len(cells) > 8 else [cells[:4], cells[4:]]
        cells = [branch(*row) for row in rows]
    return branch(*cells)


def entries_by_chance(chance, most):
    return [(chance.choice(VALUES), chance.choice(NUMBERS + [chance.randint(1, 500)])) for _ in range(most)]


class ComesAhead(unittest.TestCase):
    def test_each_two_entries(self):
        entries = [(value, number) for value in VALUES for number in NUMBERS]
        for one, other in itertools.product(entries, repeat=2):
            told = comes_ahead(one, other)
            self.assertIs(told, entry_rank(one) < entry_rank(other), (one, other))

    def test_the_value_counts_first(self):
        self.assertIs(comes_ahead((None, 9), (0, 1)), True)
        self.assertIs(comes_ahead((7, 9), ("", 1)), True)
        self.assertIs(comes_ahead(("a", 1), (7, 9)), False)
        self.assertIs(comes_ahead((10, 1), (9, 2)), False)
        self.assertIs(comes_ahead(("10", 2), ("9", 1)), True)

    def test_numbers_part_values_that_are_alike(self):
        for value in VALUES:
            self.assertIs(comes_ahead((value, 1), (value, 2)), True)
            self.assertIs(comes_ahead((value, 2), (value, 1)), False)
            self.assertIs(comes_ahead((value, 2), (value, 2)), False)
            self.assertIs(comes_ahead((value, 9), (value, 10)), True)


class Telling(unittest.TestCase):
    def test_the_empty_index(self):
        self.assertEqual(empty_index(), ("leaf", ()))
        self.assertEqual(entries_of(empty_index()), [])
        self.assertEqual(many_in(empty_index()), 0)
        self.assertIs(is_index(empty_index()), True)
        for value in VALUES:
            self.assertIs(has_entry(empty_index(), value, 1), False)
            self.assertEqual(stretch(empty_index(), (value, True), ()), [])
        self.assertEqual(stretch(empty_index(), (), ()), [])

    def test_indexes_cut_in_many_ways(self):
        chance = random.Random(21)
        for many in list(range(0, 40)) + [60, 100, 300, 700, 2000]:
            entries = set(entries_by_chance(chance, many) + [(chance.randint(-9, 9), k + 1) for k in range(many)])
            index = index_somehow(entries, chance)
            check_index(self, index, entries)
            self.assertIs(is_index(index), True)
            self.assertEqual(entries_of(index), sorted(entries, key=entry_rank))
            self.assertEqual(many_in(index), len(entries))
            for value, number in list(entries)[:60]:
                self.assertIs(has_entry(index, value, number), True)
            for value, number in entries_by_chance(chance, 60):
                self.assertIs(has_entry(index, value, number), (value, number) in entries)

    def test_each_entry_is_found_and_none_beside_it(self):
        entries = [(value, number) for value in VALUES for number in range(2, 40, 2)]
        index = index_somehow(entries, random.Random(22))
        for value in VALUES + [3, "c", -3]:
            for number in range(1, 42):
                self.assertIs(has_entry(index, value, number), (value, number) in entries, (value, number))

    def test_a_list_that_is_told_is_the_askers_own(self):
        for sizes in ([4, 4], [8, 8, 8]):
            index = tree_of(sizes)
            told = entries_of(index)
            kept = list(told)
            told.append("more")
            told[0] = None
            self.assertEqual(entries_of(index), kept)
            within = stretch(index, (), ())
            within.clear()
            self.assertEqual(stretch(index, (), ()), kept)
        told = entries_of(empty_index())
        told.append("more")
        self.assertEqual(entries_of(empty_index()), [])
        self.assertEqual(empty_index(), ("leaf", ()))


class Stretch(unittest.TestCase):
    def within(self, value, low, high):
        if low and (rank(value) < rank(low[0]) or rank(value) == rank(low[0]) and not low[1]):
            return False
        return not (high and (rank(value) > rank(high[0]) or rank(value) == rank(high[0]) and not high[1]))

    def check_all_bounds(self, index, values):
        entries = entries_of(index)
        bounds = [()] + [(value, with_it) for value in values for with_it in (True, False)]
        for low, high in itertools.product(bounds, repeat=2):
            wanted = [entry for entry in entries if self.within(entry[0], low, high)]
            self.assertEqual(stretch(index, low, high), wanted, (low, high))

    def test_all_kinds_of_bounds_against_a_plain_walk(self):
        chance = random.Random(23)
        for many in (0, 1, 2, 8, 9, 30, 200, 900):
            for _ in range(3):
                index = index_somehow(entries_by_chance(chance, many), chance)
                self.check_all_bounds(index, [None, -2, 0, 1, 5, "", "a", "ab", "~" * 40])

    def test_many_entries_of_one_value(self):
        entries = [(value, number) for value in (None, 3, "k") for number in range(1, 60)]
        self.check_all_bounds(index_somehow(entries, random.Random(24)), [None, -1, 3, 4, "", "k", "l"])

    def test_unlike_values_alone(self):
        index = index_somehow([(value, 1) for value in range(0, 200, 2)], random.Random(25))
        self.check_all_bounds(index, list(range(-2, 12)) + list(range(95, 105)) + list(range(194, 203)))

    def test_written_out(self):
        index = branch(
            leaf((None, 1), (None, 2), (1, 4), (1, 5)), leaf((1, 6), (2, 1), (3, 1), (3, 2)),
            leaf(("", 3), ("a", 1), ("a", 2), ("b", 9)))
        self.assertIs(is_index(index), True)
        self.assertEqual(stretch(index, (1, True), (1, True)), [(1, 4), (1, 5), (1, 6)])
        self.assertEqual(stretch(index, (1, False), (3, False)), [(2, 1)])
        self.assertEqual(stretch(index, (1, False), (3, True)), [(2, 1), (3, 1), (3, 2)])
        self.assertEqual(stretch(index, (), (1, False)), [(None, 1), (None, 2)])
        self.assertEqual(stretch(index, (None, False), (2, False)), [(1, 4), (1, 5), (1, 6)])
        self.assertEqual(stretch(index, (None, True), (None, True)), [(None, 1), (None, 2)])
        self.assertEqual(stretch(index, (3, False), ()), [("", 3), ("a", 1), ("a", 2), ("b", 9)])
        self.assertEqual(stretch(index, ("a", True), ()), [("a", 1), ("a", 2), ("b", 9)])
        self.assertEqual(stretch(index, ("b", False), ()), [])

    def test_a_low_bound_above_the_high_one(self):
        index = tree_of([4, 8, 5])
        for low, high in (((6, True), (4, True)), ((5, False), (5, True)), ((5, True), (5, False)),
                          ((5, False), (5, False)), (("a", True), (5, True)), ((5, True), (None, True))):
            self.assertEqual(stretch(index, low, high), [], (low, high))


class IsIndex(unittest.TestCase):
    def check_none(self, *things):
        for thing in things:
            self.assertIs(is_index(thing), False, thing)

    def test_roots_that_are_leaves(self):
        for many in range(0, 9):
            self.assertIs(is_index(run_of(1, many)), True, many)
        for many in (9, 10, 16):
            self.check_none(run_of(1, many))

    def test_roots_that_are_branches(self):
        for many in range(2, 9):
            for size in range(4, 9):
                self.assertIs(is_index(tree_of([size] * many)), True, (many, size))
        self.check_none(("branch", ()), tree_of([4]), tree_of([8]), tree_of([4] * 9), tree_of([8] * 10))

    def test_sizes_of_other_leaves(self):
        for size in (1, 2, 3, 9, 10):
            for place in range(3):
                sizes = [5, 5, 5]
                sizes[place] = size
                self.check_none(tree_of(sizes))
        self.check_none(("branch", (((5, 1), run_of(1, 4)), ((5, 5), ("leaf", ())))))

    def test_sizes_of_other_branches(self):
        def deeper(*manies):
            branches = []
            for place, many in enumerate(manies):
                branches.append(tree_of([4] * many, start=1 + place * 100))
            return branch(*branches)

        for many in range(4, 9):
            self.assertIs(is_index(deeper(many, 4)), True)
            self.assertIs(is_index(deeper(4, many, 8)), True)
            self.assertIs(is_index(deeper(*[many] * 8)), True)
        for many in (1, 2, 3, 9):
            self.check_none(deeper(many, 4), deeper(4, many), deeper(4, 4, many, 4))
        self.check_none(deeper(4), deeper(*[4] * 9))

    def test_many_levels(self):
        cells = [run_of(1 + 10 * place, 4) for place in range(4 ** 4)]
        for level in range(4):
            self.assertEqual(is_index(branch(*cells)) if len(cells) <= 8 else False, len(cells) <= 8)
            cells = [branch(*cells[start:start + 4]) for start in range(0, len(cells), 4)]
        self.assertEqual(len(cells), 1)
        self.assertIs(is_index(cells[0]), True)
        self.assertEqual(len(entries_of(cells[0])), 4 ** 5)

    def test_leaves_that_are_not_equally_deep(self):
        low = tree_of([4, 4, 4, 4])
        self.check_none(branch(low, run_of(50, 4)), branch(run_of(1, 4), tree_of([4, 4, 4, 4], start=10)))
        deep = branch(*[tree_of([4] * 4, start=1 + 20 * place) for place in range(4)])
        self.check_none(branch(deep, tree_of([4] * 4, start=200)), branch(low, branch(
            *[tree_of([4] * 4, start=100 + 20 * place) for place in range(4)])))

    def test_first_entries_that_are_not_the_first_beneath(self):
        one = run_of(1, 4)
        other = run_of(11, 4)
        good = ("branch", (((5, 1), one), ((5, 11), other)))
        self.assertIs(is_index(good), True)
        for first_one in ((5, 2), (5, 0), (4, 1), (None, 1), ("5", 1), (5, 4), [5, 1], (5, True), (5, 1, 1), 5, None):
            self.check_none(("branch", ((first_one, one), ((5, 11), other))))
        for second in ((5, 10), (5, 12), (5, 4), (5, 5), (6, 11), None, (), (5,)):
            self.check_none(("branch", (((5, 1), one), (second, other))))

    def test_first_entries_further_up(self):
        def deeper(told):
            low = tree_of([4, 4, 4, 4], start=1)
            high = tree_of([4, 4, 4, 4], start=50)
            return ("branch", ((told, low), ((5, 50), high)))

        self.assertIs(is_index(deeper((5, 1))), True)
        self.check_none(deeper((5, 2)), deeper((5, 5)), deeper((4, 1)), deeper((True, 1)))

    def test_true_is_no_number_even_where_it_equals_one(self):
        good = leaf((1, 1), (1, 2))
        self.assertIs(is_index(good), True)
        self.check_none(leaf((True, 1), (1, 2)), leaf((1, True), (1, 2)), leaf((False, 1)), leaf((0, False)))
        ones = leaf((1, 1), (1, 2), (1, 3), (1, 4))
        more = leaf((2, 1), (2, 2), (2, 3), (2, 4))
        self.assertIs(is_index(("branch", (((1, 1), ones), ((2, 1), more)))), True)
        self.check_none(("branch", (((True, 1), ones), ((2, 1), more))), ("branch",
                                                                          (((1, True), ones), ((2, 1), more))))

    def test_numbers_of_rows(self):
        for number in (1, 2, 10 ** 9 - 1, 10 ** 9):
            self.assertIs(is_index(leaf(("a", number))), True, number)
        for number in (0, -1, 10 ** 9 + 1, 10 ** 30, True, False, None, "1", (), [1], (1,)):
            self.check_none(leaf(("a", number)))

    def test_values(self):
        for value in VALUES:
            self.assertIs(is_index(leaf((value, 1))), True, value)
        for value in (10 ** 18, -10 ** 18, "x" * 41, "\n", "\x7f", True, False, (), [], (1,), [1], ("a",)):
            self.check_none(leaf((value, 1)))

    def test_order_of_entries(self):
        self.check_none(
            leaf((1, 1), (1, 1)), leaf((1, 2), (1, 1)), leaf((2, 1), (1, 1)), leaf((1, 1), (None, 2)),
            leaf(("a", 1), (1, 2)), leaf((1, 1), (2, 2), (2, 2)), leaf(("b", 1), ("a", 2)), leaf((10, 1), (9, 1)))
        self.check_none(
            branch(run_of(1, 4), run_of(4, 4)), branch(run_of(5, 4), run_of(1, 4)), branch(run_of(1, 4), run_of(1, 4)),
            branch(run_of(1, 8), run_of(2, 8)), branch(leaf((1, 1), (1, 2), (1, 3), (9, 4)), run_of(1, 4)))

    def test_order_over_cells_further_down(self):
        low = tree_of([4, 4, 4, 4], start=1)
        self.assertIs(is_index(branch(low, tree_of([4, 4, 4, 4], start=17))), True)
        self.check_none(
            branch(low, tree_of([4, 4, 4, 4], start=16)), branch(low, tree_of([4, 4, 4, 4], start=2)),
            branch(low, low), branch(tree_of([4, 4, 4, 4], start=17), low))

    def test_cells_of_another_form(self):
        self.check_none(
            ("leaf", [(1, 1)]), ["leaf", ((1, 1),)], ("leaf", ((1, 1),), ()), ("leaf", ([1, 1],)), ("leaf", (1, 2)),
            ("leaf", ((1,),)), ("leaf", ((1, 2, 3),)), ("leaf", "ab"), ("leaf", 0), ("leaf", True), ("Leaf", ()),
            (0, ()),
            ("branch", ((5, 1), (5, 2))), ("branch", [((5, 1), run_of(1, 4)), ((5, 5), run_of(5, 4))]),
            ("branch", ([(5, 1), run_of(1, 4)], ((5, 5), run_of(5, 4)))),
            ("branch", (((5, 1), list(run_of(1, 4))), ((5, 5), run_of(5, 4)))),
            ("branch", (((5, 1), run_of(1, 4), 0), ((5, 5), run_of(5, 4)))),
            ("branch", (run_of(1, 4), run_of(5, 4))), ("twig", tree_of([4, 4])[1]), ("leaf", tree_of([4, 4])[1]),
            ("branch", run_of(1, 4)[1]), ("branch", "ab"), ("branch", None))

    def test_anything(self):
        for thing in many_things():
            told = is_index(thing)
            self.assertIs(told, False)
        for thing in (Yes(), Cross(), None, True, "a", [], [()], object()):
            for strange in (("leaf", thing), (thing, ()), ("leaf", (thing,)), ("leaf", ((thing,),)),
                            ("leaf", ((1, thing),)), ("branch", thing), ("branch", (thing, thing)),
                            ("branch", ((thing, thing), (thing, thing))),
                            ("branch", ((thing, run_of(1, 4)), ((5, 5), run_of(5, 4)))),
                            ("branch", (((5, 1), run_of(1, 4)), ((5, 5), thing)))):
                self.assertIs(is_index(strange), False)

    def test_one_cell_beneath_many_parts_to_a_great_depth(self):
        cell = run_of(1, 4)
        for _ in range(13):
            cell = ("branch", (((5, 1), cell),) * 8)
        self.check_none(cell)
        cell = run_of(1, 4)
        for _ in range(13):
            cell = ("branch", tuple([((5, number), cell) for number in range(1, 9)]))
        self.check_none(cell)

    def test_what_is_handed_in_stays(self):
        thing = ("leaf", [(1, 1), [2, 2]])
        is_index(thing)
        self.assertEqual(thing, ("leaf", [(1, 1), [2, 2]]))


if __name__ == "__main__":
    unittest.main()
