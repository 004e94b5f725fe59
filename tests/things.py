"""What several files of tests share: things of many kinds, and plain accounts of what the program tells."""

import functools
import itertools


class Yes:
    """Says of everything that it is the same, and has a length and a first thing."""

    def __eq__(self, other):
        return True

    def __hash__(self):
        return 0

    def __len__(self):
        return 2

    def __getitem__(self, place):
        return "number"


class Cross:
    """Fails whatever is asked of it."""

    def fail(self, *others):
        raise RuntimeError("asked")

    __eq__ = __ne__ = __lt__ = __le__ = __gt__ = __ge__ = fail
    __hash__ = __len__ = __bool__ = __iter__ = __getitem__ = __contains__ = fail
    __str__ = __index__ = __int__ = __abs__ = __call__ = fail

    def __repr__(self):
        return "Cross()"


def own_list():
    """A list that lies within itself."""
    own = []
    own.append(own)
    return own


def no_values():
    """New things, none of which is a value, a name, a shape or a row."""
    return [
        True, False, 0.0, 1.5, float("nan"), float("inf"), 1j, b"", b"abc", bytearray(b"a"),
        [], [1], ["abc"], {}, {"abc": 1}, set(), {1}, frozenset(), range(2), object(), object,
        int, str, len, NotImplemented, Ellipsis, Yes(), Cross(), own_list(), iter(()), lambda: None,
    ]


def rank(value):
    """Python's own order of these is the order of [1.2]."""
    if value is None:
        return (0, 0)
    return (2, value) if isinstance(value, str) else (1, value)


def entry_rank(entry):
    return (rank(entry[0]), entry[1])


def walk_index(case, index, root=True):
    """The entries of an index, and how deep its leaves lie, with every cell held against [2.1] to [2.3]."""
    case.assertIs(type(index), tuple)
    case.assertEqual(len(index), 2)
    word, things = index
    case.assertIs(type(things), tuple)
    case.assertLessEqual(len(things), 8)
    if word == "leaf":
        case.assertGreaterEqual(len(things), 0 if root else 4)
        return list(things), 0
    case.assertEqual(word, "branch")
    case.assertGreaterEqual(len(things), 2 if root else 4)
    entries = []
    depths = set()
    for part in things:
        case.assertIs(type(part), tuple)
        case.assertEqual(len(part), 2)
        beneath, depth = walk_index(case, part[1], root=False)
        case.assertEqual(part[0], beneath[0])
        entries.extend(beneath)
        depths.add(depth)
    case.assertEqual(len(depths), 1)
    return entries, depths.pop() + 1


def check_index(case, index, wanted):
    """That it is an index of just the entries wanted, in order; how deep its leaves lie."""
    entries, depth = walk_index(case, index)
    for entry in entries:
        case.assertIs(type(entry), tuple)
        case.assertEqual(len(entry), 2)
    ranks = [entry_rank(entry) for entry in entries]
    case.assertTrue(all(one < other for one, other in zip(ranks, ranks[1:])))
    case.assertEqual(entries, sorted(wanted, key=entry_rank))
    return depth


def many_things():
    """Things made of tuples, lists, texts, whole numbers, truths and None, and other ones."""
    deep = ()
    for _ in range(29):
        deep = (deep,)
    return no_values() + [
        None, 0, 1, -1, 10 ** 9, 10 ** 30, "", "a", "leaf", "branch", (), (1,), (1, 2), ("a", 1), ((), ()), (None, 1),
        ("leaf",), ("leaf", None), ("leaf", ""), ("leaf", []), ["leaf", ()], ("leaf", (), ()), ("leaf", {}),
        ("branch", ()), ("branch", []), ("branch", None), ("branch",), ("LEAF", ()), (b"leaf", ()), deep, [[]], [()],
    ]


def plain_table(table):
    """What a Table tells, as values that can be compared: its shape, its rows, and each index's entries."""
    indexes = {}
    for column, index in table.indexes.items():
        entries = []
        pile = [index]
        while pile:
            word, things = pile.pop()
            if word == "leaf":
                entries.extend(things)
            else:
                pile.extend([part[1] for part in reversed(things)])
        indexes[column] = entries
    return (table.shape, dict(table.rows), indexes)


def plain_state(state):
    return {name: plain_table(table) for name, table in state.items()}


def check_table(case, table, shape, rows, columns):
    """That a Table has just this shape, these rows, and sound indexes of just these columns."""
    case.assertEqual(table.shape, shape)
    case.assertIs(type(table.rows), dict)
    case.assertEqual(table.rows, rows)
    case.assertTrue(all(type(number) is int for number in table.rows))
    case.assertIs(type(table.indexes), dict)
    case.assertEqual(sorted(table.indexes), sorted(columns))
    for place, (column, _) in enumerate(shape[1]):
        if column in columns:
            check_index(case, table.indexes[column], [(row[place], number) for number, row in rows.items()])


def check_state(case, state, wanted):
    """That a state has just the tables wanted: a dict from names to (shape, rows, columns)."""
    case.assertIs(type(state), dict)
    case.assertEqual(sorted(state), sorted(wanted))
    for name, (shape, rows, columns) in wanted.items():
        check_table(case, state[name], shape, rows, columns)


def plain_changed(wanted, change):
    """What a change makes of such a dict; that it can be done is not looked at."""
    after = {name: (shape, dict(rows), list(columns)) for name, (shape, rows, columns) in wanted.items()}
    if change[0] == "table":
        after[change[1][0]] = (change[1], {}, [])
    elif change[0] == "index":
        after[change[1]][2].append(change[2])
    elif change[0] == "put":
        after[change[1]][1][change[2]] = change[3]
    else:
        del after[change[1]][1][change[2]]
    return after


def asked(text, state):
    """The bound tree of a question over a state."""
    from tablestore.asking import read
    from tablestore.checking import bound

    return bound(read(text), {name: table.shape for name, table in state.items()})


SIGN_TELLS = {
    "=": lambda one, other: one == other, "<>": lambda one, other: one != other, "<": lambda one, other: one < other,
    "<=": lambda one, other: one <= other, ">": lambda one, other: one > other, ">=": lambda one, other: one >= other,
}


def plain_value(tree, state, numbers, side):
    if side[0] == "value":
        return side[1]
    return state[tree[1][side[1]][0]].rows[numbers[side[1]]][side[2]]


def plain_holds(tree, state, numbers, condition):
    if condition is None:
        return True
    if condition[0] == "test":
        sides = [rank(plain_value(tree, state, numbers, side)) for side in condition[2:]]
        return SIGN_TELLS[condition[1]](*sides)
    told = [plain_holds(tree, state, numbers, inner) for inner in condition[1:]]
    return {"and": all(told), "or": any(told), "not": not told[0]}[condition[0]]


def plain_ordered(tuples, orders, tree, state):
    """Tuples in the order of [7.4], two by two."""
    def compare_two(one, other):
        for cell, down in orders:
            first, second = [rank(plain_value(tree, state, numbers, cell)) for numbers in (one, other)]
            if first != second:
                return (1 if first > second else -1) * (-1 if down else 1)
        return (one > other) - (one < other)

    return sorted(tuples, key=functools.cmp_to_key(compare_two))


def plain_tuples(tree, state):
    """The tuples of [7.4] in their order, by a plain walk over all."""
    rows = [state[source[0]].rows for source in tree[1]]
    found = [numbers for numbers in itertools.product(*rows) if plain_holds(tree, state, numbers, tree[2])]
    return plain_ordered(found, tree[3], tree, state)


def plain_answer(tree, state):
    tuples = plain_tuples(tree, state)
    if tree[5] is not None:
        tuples = tuples[:tree[5]]
    return [tuple([plain_value(tree, state, numbers, cell) for cell in tree[4]]) for numbers in tuples]


class Asker:
    """Questions by chance over tables whose shapes it is told."""

    def __init__(self, chance, shapes):
        self.chance = chance
        self.shapes = shapes

    def column(self):
        k = self.chance.randrange(len(self.sources))
        return "pqr"[k] + "." + self.chance.choice(self.sources[k][1])[0]

    def side(self):
        if self.chance.random() < 0.35:
            return self.chance.choice(["0", "1", "2", "none", '"a"', '"b"', "5"])
        return self.column()

    def condition(self, depth):
        word = self.chance.choice(["and", "and", "and", "or", "not", "test"]) if depth else "test"
        if word == "test":
            return f"{self.side()} {self.chance.choice(['=', '=', '=', '<', '<=', '>', '>=', '<>'])} {self.side()}"
        if word == "not":
            return f"not ({self.condition(depth - 1)})"
        return f"({self.condition(depth - 1)} {word} {self.condition(depth - 1)})"

    def question(self, most=3):
        self.sources = [self.chance.choice(self.shapes) for _ in range(self.chance.randint(1, most))]
        text = "from " + ", ".join([f"{shape[0]} {alias}" for shape, alias in zip(self.sources, "pqr")])
        if self.chance.random() < 0.9:
            text += " where " + self.condition(2)
        orders = [self.column() + self.chance.choice(["", " down"]) for _ in range(self.chance.randint(0, 3))]
        if orders:
            text += " order by " + ", ".join(orders)
        text += " show " + ", ".join([self.column() for _ in range(self.chance.randint(1, 4))])
        if self.chance.random() < 0.3:
            text += f" take {self.chance.choice([0, 1, 3, 1000])}"
        return text
