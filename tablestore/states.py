"""States: tables by their names, and the four changes that make one state of another."""

from tablestore.errors import BadChange, BadRow, BadShape, IndexThere, NoColumn, NoRow, NoTable, TableThere
from tablestore.ordered import is_row_number
from tablestore.shapes import column_place, fits, is_name, is_shape
from tablestore.tables import is_table, new_table, with_index, with_row, without_row

# The words of changes, and how many things a change has with its word.
FORMS = {"table": 2, "index": 3, "put": 4, "drop": 3}


def changed(state, change):
    word = word_of(change)
    if word == "table":
        return state_with_table(state, change[1])
    if word == "index":
        return state_with_index(state, change[1], change[2])
    if word == "put":
        return state_with_row(state, change[1], change[2], change[3])
    return state_without_row(state, change[1], change[2])


def all_changed(state, changes):
    behind = state
    for change in changes:
        behind = changed(behind, change)
    return behind


def word_of(change):
    if not isinstance(change, tuple) or len(change) == 0 or not isinstance(change[0], str):
        raise BadChange("no tuple with a word")
    if change[0] not in FORMS or len(change) != FORMS[change[0]]:
        raise BadChange("another word, or more or fewer things than it has")
    return change[0]


def state_with_table(state, shape):
    if not is_shape(shape):
        raise BadShape("no shape")
    if shape[0] in state:
        raise TableThere("a table of that name is there already")
    return state_with(state, shape[0], new_table(shape))


def state_with_index(state, name, column):
    table = table_in(state, name)
    if not isinstance(column, str) or column_place(table.shape, column) is None:
        raise NoColumn("no column of that table")
    if column in table.indexes:
        raise IndexThere("an index of that column is there already")
    return state_with(state, name, with_index(table, column))


def state_with_row(state, name, number, row):
    table = table_in(state, name)
    if not is_row_number(number):
        raise BadChange("no number that a row can have")
    if not fits(table.shape, row):
        raise BadRow("a row that does not fit its table's shape")
    return state_with(state, name, with_row(table, number, row))


def state_without_row(state, name, number):
    table = table_in(state, name)
    refuse_no_row(table, number)
    return state_with(state, name, without_row(table, number))


def table_in(state, name):
    # What is no text is kept from `in`: it may not be fit to be a key.
    if not isinstance(name, str) or name not in state:
        raise NoTable("no name of a table that is there")
    return state[name]


def refuse_no_row(table, number):
    if not is_row_number(number) or number not in table.rows:
        raise NoRow("no number of a row that is there")


def state_with(state, name, table):
    behind = dict(state)
    behind[name] = table
    return behind


def is_state(state):
    return isinstance(state, dict) and all([is_table_under(table, name) for name, table in state.items()])


def is_table_under(table, name):
    return is_name(name) and is_table(table) and table.shape[0] == name


def key_of(change):
    if change[0] == "table":
        return ("table", change[1][0])
    if change[0] == "index":
        return change
    return ("row", change[1], change[2])
