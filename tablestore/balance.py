"""Indexes made of others by one entry more or less, and of a list of entries."""

from tablestore.ordered import FEWEST, MOST, comes_ahead, empty_index, first_of, has_entry, part_place
from tablestore.values import order_key


def with_entry(index, value, number):
    if has_entry(index, value, number):
        return index
    return rooted(cells_with(index, (value, number)))


# One cell, or two where one would have too much.
def cells_with(cell, entry):
    if cell[0] == "leaf":
        ahead = [other for other in cell[1] if comes_ahead(other, entry)]
        behind = [other for other in cell[1] if comes_ahead(entry, other)]
        return cells_of("leaf", ahead + [entry] + behind)
    parts = list(cell[1])
    place = part_place(parts, entry)
    fresh = cells_with(parts[place][1], entry)
    return cells_of("branch", parts[:place] + parts_of(fresh) + parts[place + 1:])


# The things are cut as evenly as can be: so, of nine or more, no cell gets fewer than four.
def cells_of(word, things):
    many = (len(things) + MOST - 1) // MOST
    cells = []
    for place in range(many):
        start = place * len(things) // many
        end = (place + 1) * len(things) // many
        cells.append((word, tuple(things[start:end])))
    return cells


def parts_of(cells):
    return [(first_of(cell), cell) for cell in cells]


def rooted(cells):
    level = cells
    while len(level) > 1:
        level = cells_of("branch", parts_of(level))
    return level[0]


def without_entry(index, value, number):
    if not has_entry(index, value, number):
        return index
    root = cell_without(index, (value, number))
    # A root that was left with one part would be no root: that part's cell takes its place.
    if root[0] == "branch" and len(root[1]) == 1:
        return root[1][0][1]
    return root


# A cell that may have one thing too few; whoever stands above it mends that.
def cell_without(cell, entry):
    if cell[0] == "leaf":
        return ("leaf", tuple([other for other in cell[1] if other != entry]))
    parts = list(cell[1])
    place = part_place(parts, entry)
    smaller = cell_without(parts[place][1], entry)
    if len(smaller[1]) >= FEWEST:
        return ("branch", tuple(parts[:place] + parts_of([smaller]) + parts[place + 1:]))
    return mended(parts, place, smaller)


# A cell with too few goes together with one beside it, and both are cut anew.
def mended(parts, place, smaller):
    if place == 0:
        start = 0
        things = smaller[1] + parts[1][1][1]
    else:
        start = place - 1
        things = parts[start][1][1] + smaller[1]
    fresh = cells_of(smaller[0], things)
    return ("branch", tuple(parts[:start] + parts_of(fresh) + parts[start + 2:]))


def index_from(entries):
    once = []
    for entry in sorted(entries, key=entry_key):
        if once == [] or once[-1] != entry:
            once.append(entry)
    if once == []:
        return empty_index()
    return rooted(cells_of("leaf", once))


def entry_key(entry):
    return (order_key(entry[0]), entry[1])
