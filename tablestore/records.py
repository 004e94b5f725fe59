"""Changes as lines of text, and records of lists of changes."""

from tablestore.errors import BadLog, BadValue
from tablestore.ordered import is_row_number
from tablestore.shapes import is_name, is_shape
from tablestore.values import FIGURES, read_values, written

# A number of a row has no more figures than the greatest one.
MOST_FIGURES = 10
MOST_VALUES = 8
SIZE_FIGURES = 9
RECORD_END = "end\n"


def change_text(change):
    if change[0] == "table":
        return table_text(change[1])
    if change[0] == "index":
        return " ".join(change)
    words = [change[0], change[1], str(change[2])]
    if change[0] == "put":
        words.append(row_text(change[3]))
    return " ".join(words)


def table_text(shape):
    words = ["table", shape[0]]
    for column in shape[1]:
        words.extend(column)
    return " ".join(words)


def row_text(values):
    return " ".join([written(value) for value in values])


def read_change(line):
    words = line.split(" ")
    if words[0] == "table":
        return read_table(words)
    if words[0] == "put":
        return read_put(line)
    if len(words) != 3 or not is_name(words[1]):
        raise BadLog(f"no line of a change: {line!r}")
    if words[0] == "index" and is_name(words[2]):
        return ("index", words[1], words[2])
    if words[0] == "drop":
        return ("drop", words[1], read_row_number(words[2]))
    raise BadLog(f"no line of a change: {line!r}")


def read_table(words):
    columns = [(words[place], words[place + 1]) for place in range(2, len(words) - 1, 2)]
    # With a word left over that has no partner, the columns are fewer than the words tell.
    if len(words) != 2 + 2 * len(columns):
        raise BadLog("a column without a kind, or a table without a name")
    shape = (words[1], tuple(columns))
    if not is_shape(shape):
        raise BadLog("no shape")
    return ("table", shape)


# The values are read as a whole: within a text there may be blanks.
def read_put(line):
    named = line[len("put "):].partition(" ")
    numbered = named[2].partition(" ")
    if not is_name(named[0]):
        raise BadLog(f"no name of a table: {line!r}")
    number = read_row_number(numbered[0])
    try:
        values = read_values(numbered[2])
    except BadValue as error:
        raise BadLog(f"no values: {line!r}") from error
    if len(values) < 1 or len(values) > MOST_VALUES:
        raise BadLog(f"no values, or too many: {line!r}")
    return ("put", named[0], number, tuple(values))


def read_row_number(word):
    # Python's int takes more than figures, so nothing else is to reach it, nor a number too long for it.
    if word == "" or len(word) > MOST_FIGURES or not all([sign in FIGURES for sign in word]):
        raise BadLog(f"no number of a row: {word!r}")
    number = int(word)
    if word.startswith("0") or not is_row_number(number):
        raise BadLog(f"a nought ahead, or a number beyond the bounds: {word!r}")
    return number


def record(changes):
    body = "".join([change_text(change) + "\n" for change in changes])
    return str(len(body)).zfill(SIZE_FIGURES) + "\n" + body + RECORD_END
