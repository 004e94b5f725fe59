"""Tables: a shape, numbered rows, and indexes of some columns."""

from tablestore.balance import entry_key, index_from, with_entry, without_entry
from tablestore.ordered import entries_of, is_index, is_row_number
from tablestore.shapes import column_place, fits, is_shape


# Its fields are only to be read: tables share them.
class Table:
    def __init__(self, shape, rows, indexes):
        self.shape = shape
        self.rows = rows
        self.indexes = indexes


def new_table(shape):
    return Table(shape, {}, {})


def with_row(table, number, row):
    rows = dict(table.rows)
    rows[number] = row
    indexes = {}
    for column in table.indexes:
        index = index_without(table, column, number)
        indexes[column] = with_entry(index, row[column_place(table.shape, column)], number)
    return Table(table.shape, rows, indexes)


def without_row(table, number):
    rows = dict(table.rows)
    rows.pop(number)
    indexes = {}
    for column in table.indexes:
        indexes[column] = index_without(table, column, number)
    return Table(table.shape, rows, indexes)


def index_without(table, column, number):
    index = table.indexes[column]
    if number not in table.rows:
        return index
    return without_entry(index, table.rows[number][column_place(table.shape, column)], number)


def with_index(table, column):
    indexes = dict(table.indexes)
    indexes[column] = index_from(entries_by(table, column))
    return Table(table.shape, table.rows, indexes)


# The entries that an index of the column has to have.
def entries_by(table, column):
    place = column_place(table.shape, column)
    return [(row[place], number) for number, row in table.rows.items()]


def numbers_of(table):
    return sorted(table.rows)


def is_table(thing):
    if not isinstance(thing, Table) or not is_shape(thing.shape):
        return False
    if not isinstance(thing.rows, dict) or not isinstance(thing.indexes, dict):
        return False
    if not all([is_row_number(number) and fits(thing.shape, row) for number, row in thing.rows.items()]):
        return False
    return all([is_index_by(thing, column) for column in thing.indexes])


def is_index_by(table, column):
    if not isinstance(column, str) or column_place(table.shape, column) is None:
        return False
    index = table.indexes[column]
    return is_index(index) and entries_of(index) == sorted(entries_by(table, column), key=entry_key)
