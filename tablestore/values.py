"""Values: what they are, their one order, and how they are written and read."""

from tablestore.errors import BadValue

# They stand in the order in which compare puts values of unlike kinds.
KINDS = ("none", "number", "text")
FIGURES = "0123456789"
MOST_SIGNS = 40
# Numbers of more figures lie beyond the bounds of a value, numbers of fewer within them.
MOST_FIGURES = 18


def is_value(thing):
    if isinstance(thing, str):
        return len(thing) <= MOST_SIGNS and all([is_sign(sign) for sign in thing])
    # Python takes True and False for whole numbers; as values they are none.
    if isinstance(thing, int) and not isinstance(thing, bool):
        return abs(thing) < 10 ** 18
    return thing is None


def is_sign(sign):
    return sign >= " " and sign <= "~"


def kind_of(value):
    if value is None:
        return "none"
    return "text" if isinstance(value, str) else "number"


def compare(one, other):
    if kind_of(one) != kind_of(other):
        return -1 if KINDS.index(kind_of(one)) < KINDS.index(kind_of(other)) else 1
    # This comes ahead of `<`, which None does not have.
    if one == other:
        return 0
    return -1 if one < other else 1


# For `sorted`: tuples that Python puts in the order in which compare puts the values.
def order_key(value):
    if value is None:
        return (0, 0)
    return (KINDS.index(kind_of(value)), value)


def written(value):
    if value is None:
        return "none"
    if isinstance(value, str):
        return '"' + value.replace('"', '""') + '"'
    return str(value)


def read_value(line):
    if line == "none":
        return None
    if line.startswith('"'):
        return read_text(line)
    return read_number(line)


def read_text(line):
    if len(line) < 2 or not line.endswith('"'):
        raise BadValue(f"a text without its end: {line!r}")
    inner = line[1:-1]
    # What is left of a sign " when all pairs are gone ended the text ahead of the line's end.
    if '"' in inner.replace('""', ""):
        raise BadValue(f"a sign behind a text's end, or no end: {line!r}")
    text = inner.replace('""', '"')
    if not is_value(text):
        raise BadValue(f"a text too long, or of signs that no value has: {line!r}")
    return text


def read_number(line):
    figures = line[1:] if line.startswith("-") else line
    # Python's int takes more than figures (blanks, +, _), so nothing else is to reach it.
    if figures == "" or not all([sign in FIGURES for sign in figures]):
        raise BadValue(f"neither none nor a number nor a text: {line!r}")
    if figures.startswith("0") and line != "0":
        raise BadValue(f"a nought ahead, or -0: {line!r}")
    if len(figures) > MOST_FIGURES:
        raise BadValue(f"a number beyond the bounds: {line!r}")
    return int(line)


def read_values(line):
    if line == "":
        return []
    return [read_value(piece) for piece in pieces_of(line)]


# A sign " within a text stands twice, and so leaves it open as it was:
# a blank parts two values just where an even number of these signs stands ahead of it.
def pieces_of(line):
    pieces = []
    start = 0
    in_text = False
    for place, sign in enumerate(line):
        if sign == '"':
            in_text = not in_text
        if sign == " " and not in_text:
            pieces.append(line[start:place])
            start = place + 1
    pieces.append(line[start:])
    return pieces
