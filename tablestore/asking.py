"""Questions: read from a text to a tree, and where the fault of a text lies that is none."""

from tablestore.errors import BadQuestion
from tablestore.piles import Piles
from tablestore.words import word_at

MOST_SIGNS = 900
MOST_SOURCES = 3
MOST_COLUMNS = 8
MOST_TESTS = 20
# Of brackets and `not` together.
MOST_NESTED = 20
TEST_SIGNS = ("=", "<>", "<", "<=", ">", ">=")


# Stands at one word of a text; where reading is refused, that word is the one at fault.
class Reader:
    def __init__(self, text):
        self.text = text
        self.word = word_within(text, 0)
        self.tests = 0
        self.nested = 0

    def step(self):
        self.word = word_within(self.text, self.word[3])

    def stands(self, kind, value):
        return self.word[0] == kind and self.word[1] == value


def word_within(text, place):
    word = word_at(text, place)
    if word[0] != "end" and word[3] > MOST_SIGNS:
        return ("bad", None, word[2], word[2])
    return word


def refuse(reader):
    place = reader.word[2]
    raise BadQuestion(f"no question: its fault is at {place}")


def read(text):
    if not isinstance(text, str):
        raise BadQuestion("no text")
    return read_question(Reader(text))


def fault_in(text):
    reader = Reader(text)
    try:
        read_question(reader)
    except BadQuestion:
        return reader.word[2]
    return None


def read_question(reader):
    need(reader, "key", "from")
    sources = read_row(reader, read_source, MOST_SOURCES)
    condition = read_condition(reader) if passed(reader, "key", "where") else None
    orders = read_orders(reader) if passed(reader, "key", "order") else ()
    need(reader, "key", "show")
    columns = read_row(reader, read_column, MOST_COLUMNS)
    take = read_take(reader) if passed(reader, "key", "take") else None
    if reader.word[0] != "end":
        refuse(reader)
    return ("ask", sources, condition, orders, columns, take)


# Whether that word stands there; if so, the reader goes on behind it.
def passed(reader, kind, value):
    if not reader.stands(kind, value):
        return False
    reader.step()
    return True


def need(reader, kind, value):
    if not passed(reader, kind, value):
        refuse(reader)


def read_kind(reader, kind):
    if reader.word[0] != kind:
        refuse(reader)
    value = reader.word[1]
    reader.step()
    return value


# One thing, or several with a comma between, as a tuple.
def read_row(reader, read_one, most):
    things = [read_one(reader)]
    while len(things) < most and passed(reader, "sign", ","):
        things.append(read_one(reader))
    return tuple(things)


def read_source(reader):
    table = read_kind(reader, "name")
    alias = read_kind(reader, "name") if reader.word[0] == "name" else table
    return (table, alias)


def read_orders(reader):
    need(reader, "key", "by")
    return read_row(reader, read_order, MOST_COLUMNS)


def read_order(reader):
    column = read_column(reader)
    return (column, passed(reader, "key", "down"))


def read_column(reader):
    alias = read_kind(reader, "name")
    need(reader, "sign", ".")
    return ("column", alias, read_kind(reader, "name"))


def read_take(reader):
    if reader.word[0] == "number" and reader.word[1] < 0:
        refuse(reader)
    return read_kind(reader, "number")


def read_condition(reader):
    piles = Piles()
    read_side(reader, piles)
    while reader.stands("key", "and") or reader.stands("key", "or"):
        piles.add_joint(reader.word[1])
        reader.step()
        read_side(reader, piles)
    if piles.has_bracket():
        refuse(reader)
    return piles.whole()


# A test, with all brackets and `not` ahead of it and the ends of brackets behind it.
def read_side(reader, piles):
    while reader.stands("key", "not") or reader.stands("sign", "("):
        if reader.nested == MOST_NESTED:
            refuse(reader)
        reader.nested += 1
        piles.add_word(reader.word[1])
        reader.step()
    piles.add_tree(read_test(reader))
    while piles.has_bracket() and passed(reader, "sign", ")"):
        piles.close_bracket()


def read_test(reader):
    if reader.tests == MOST_TESTS:
        refuse(reader)
    reader.tests += 1
    one = read_operand(reader)
    if reader.word[0] != "sign" or reader.word[1] not in TEST_SIGNS:
        refuse(reader)
    sign = read_kind(reader, "sign")
    return ("test", sign, one, read_operand(reader))


def read_operand(reader):
    if reader.word[0] == "name":
        return read_column(reader)
    if reader.word[0] == "number" or reader.word[0] == "text":
        return ("value", read_kind(reader, reader.word[0]))
    need(reader, "key", "none")
    return ("value", None)
