"""The refusals of all stages, each a class of its own, so that they can be told apart by name."""


# Any refusal.
class TableError(ValueError):
    pass


# A text that writes no value, or no values in a row.
class BadValue(TableError):
    pass


# What should be a shape and is none.
class BadShape(TableError):
    pass


# What should be a change and is none, or bears a number that is none.
class BadChange(TableError):
    pass


# A row that does not fit its table's shape.
class BadRow(TableError):
    pass


# A table that is not there.
class NoTable(TableError):
    pass


# A table that is there already.
class TableThere(TableError):
    pass


# A column that its table does not have.
class NoColumn(TableError):
    pass


# An index that is there already.
class IndexThere(TableError):
    pass


# A number under which no row stands.
class NoRow(TableError):
    pass


# A dealing that was kept, clashed or was left, and is asked for more.
class Over(TableError):
    pass


# A dealing that touched what another one, kept since its start, touched.
class Clash(TableError):
    pass


# A text that is no log, or whose changes can't be done.
class BadLog(TableError):
    pass


# A text that is no question, or one whose aliases don't hold together.
class BadQuestion(TableError):
    pass


# A refusal of a desk's own.
class BadDesk(TableError):
    pass
