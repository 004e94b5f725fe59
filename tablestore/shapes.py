"""Names, shapes of tables, and rows that fit them."""

from tablestore.values import is_value, kind_of

# A question could not tell these from its own words.
NO_NAMES = ("and", "by", "down", "from", "none", "not", "or", "order", "show", "take", "where")
COLUMN_KINDS = ("number", "text")
MOST_LETTERS = 8
MOST_COLUMNS = 8


def is_name(thing):
    if not isinstance(thing, str) or thing == "" or len(thing) > MOST_LETTERS:
        return False
    return all([is_letter(sign) for sign in thing]) and thing not in NO_NAMES


def is_letter(sign):
    return sign >= "a" and sign <= "z"


def is_shape(thing):
    return is_pair(thing) and is_name(thing[0]) and are_columns(thing[1])


def is_pair(thing):
    return isinstance(thing, tuple) and len(thing) == 2


def are_columns(thing):
    if not isinstance(thing, tuple) or len(thing) < 1 or len(thing) > MOST_COLUMNS:
        return False
    if not all([is_column(column) for column in thing]):
        return False
    names = [column[0] for column in thing]
    return len(set(names)) == len(names)


def is_column(thing):
    return is_pair(thing) and is_name(thing[0]) and is_column_kind(thing[1])


def is_column_kind(thing):
    # Things of other kinds are kept from `in`: they may answer a comparison as they like.
    return isinstance(thing, str) and thing in COLUMN_KINDS


def column_place(shape, column):
    for place, pair in enumerate(shape[1]):
        if pair[0] == column:
            return place
    return None


def fits(shape, row):
    columns = shape[1]
    if not isinstance(row, tuple) or len(row) != len(columns):
        return False
    return all([fits_kind(thing, column[1]) for thing, column in zip(row, columns)])


def fits_kind(thing, kind):
    return thing is None or is_value(thing) and kind_of(thing) == kind
