"""Ordered indexes: their entries and cells, what an index is, and what it tells."""

from tablestore.values import compare, is_value

# How many entries a leaf, or parts a branch, has that is not the root.
FEWEST = 4
MOST = 8
FEWEST_OF_ROOT = 2
MOST_ROW_NUMBER = 1000000000


def comes_ahead(one, other):
    told = compare(one[0], other[0])
    return told < 0 or told == 0 and one[1] < other[1]


def empty_index():
    return ("leaf", ())


def entries_of(index):
    cells = [index]
    while cells[0][0] == "branch":
        cells = [part[1] for part in things_in(cells)]
    return things_in(cells)


# The entries of leaves, or the parts of branches, one behind the other.
def things_in(cells):
    things = []
    for cell in cells:
        things.extend(cell[1])
    return things


def many_in(index):
    return len(entries_of(index))


def has_entry(index, value, number):
    entry = (value, number)
    cell = index
    while cell[0] == "branch":
        parts = cell[1]
        cell = parts[part_place(parts, entry)][1]
    return entry in cell[1]


# The place of the part beneath which an entry stands, or would stand.
def part_place(parts, entry):
    place = 0
    while place + 1 < len(parts) and not comes_ahead(entry, parts[place + 1][0]):
        place += 1
    return place


def first_of(cell):
    return cell[1][0] if cell[0] == "leaf" else cell[1][0][0]


def stretch(index, low, high):
    cells = [index]
    while cells != [] and cells[0][0] == "branch":
        beneath = []
        for cell in cells:
            beneath.extend(cells_within(cell[1], low, high))
        cells = beneath
    return [entry for entry in things_in(cells) if meets_low(entry[0], low) and meets_high(entry[0], high)]


# The cells beneath which an entry may lie within both bounds. None does beneath a part
# whose first value lies above the high bound, or where the next part still begins below the low one.
def cells_within(parts, low, high):
    cells = []
    for place, part in enumerate(parts):
        below = place + 1 < len(parts) and not meets_low(parts[place + 1][0][0], low)
        if not below and meets_high(part[0][0], high):
            cells.append(part[1])
    return cells


def meets_low(value, low):
    if low == ():
        return True
    told = compare(value, low[0])
    return told > 0 or told == 0 and low[1]


def meets_high(value, high):
    if high == ():
        return True
    told = compare(value, high[0])
    return told < 0 or told == 0 and high[1]


# The cells are walked level by level: so the leaves are equally deep just where
# each level has either leaves alone or branches alone.
def is_index(thing):
    if is_leaf(thing, 0):
        return True
    if not is_branch(thing, FEWEST_OF_ROOT):
        return False
    parts = list(thing[1])
    # Looked at on each level, the order also keeps one cell from being walked beneath many parts.
    while rises([part[0] for part in parts]):
        cells = [part[1] for part in parts]
        leaves = all([is_leaf(cell, FEWEST) for cell in cells])
        if not leaves and not all([is_branch(cell, FEWEST) for cell in cells]):
            return False
        if not all([part[0] == first_of(part[1]) for part in parts]):
            return False
        if leaves:
            return rises(things_in(cells))
        parts = things_in(cells)
    return False


def is_leaf(thing, fewest):
    if not is_cell(thing, "leaf", fewest):
        return False
    return all([is_entry(entry) for entry in thing[1]]) and rises(thing[1])


def is_branch(thing, fewest):
    return is_cell(thing, "branch", fewest) and all([is_part(part) for part in thing[1]])


def is_cell(thing, word, fewest):
    if not is_two(thing) or not isinstance(thing[0], str) or thing[0] != word:
        return False
    return isinstance(thing[1], tuple) and len(thing[1]) >= fewest and len(thing[1]) <= MOST


def is_part(thing):
    return is_two(thing) and is_entry(thing[0])


def is_entry(thing):
    return is_two(thing) and is_value(thing[0]) and is_row_number(thing[1])


def is_two(thing):
    return isinstance(thing, tuple) and len(thing) == 2


def is_row_number(thing):
    # Python takes True for the number 1; as the number of a row it is none.
    return isinstance(thing, int) and not isinstance(thing, bool) and thing >= 1 and thing <= MOST_ROW_NUMBER


def rises(entries):
    return all([comes_ahead(one, other) for one, other in zip(entries, entries[1:])])
