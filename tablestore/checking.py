"""A question's tree bound to the shapes of tables."""

from tablestore.errors import BadQuestion, NoColumn, NoTable
from tablestore.shapes import column_place


# Everything is bound from the left, in the order of the plain text: so the first fault there is the one refused.
def bound(tree, shapes):
    sources = tree[1]
    refuse_sources(sources, shapes)
    condition = tree[2] if tree[2] is None else bound_condition(tree[2], sources, shapes)
    orders = [(bound_side(order[0], sources, shapes), order[1]) for order in tree[3]]
    cells = [bound_side(column, sources, shapes) for column in tree[4]]
    return ("ask", sources, condition, tuple(orders), tuple(cells), tree[5])


def refuse_sources(sources, shapes):
    for source in sources:
        if source[0] not in shapes:
            raise NoTable("a source whose table is not there")
    aliases = [source[1] for source in sources]
    if len(set(aliases)) < len(aliases):
        raise BadQuestion("two sources of one alias")


def bound_condition(condition, sources, shapes):
    if condition[0] == "test":
        one = bound_side(condition[2], sources, shapes)
        return ("test", condition[1], one, bound_side(condition[3], sources, shapes))
    inner = [bound_condition(side, sources, shapes) for side in condition[1:]]
    return tuple([condition[0]] + inner)


def bound_side(side, sources, shapes):
    if side[0] != "column":
        return side
    aliases = [source[1] for source in sources]
    if side[1] not in aliases:
        raise BadQuestion("an alias that is no source's")
    number = aliases.index(side[1])
    place = column_place(shapes[sources[number][0]], side[2])
    if place is None:
        raise NoColumn("a column that the source's table does not have")
    return ("cell", number, place)
