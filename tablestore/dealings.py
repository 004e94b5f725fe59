"""Dealings: what one sees and changes of a store, until it is kept or left."""

from tablestore.errors import Clash, Over
from tablestore.states import changed, key_of, refuse_no_row, table_in


# Made by begin alone: a dealing goes on from the newest state of its store.
class Dealing:
    def __init__(self, store):
        self.store = store
        self.started = store.many()
        self.seen = store.newest()
        self.done = []
        self.ended = False

    def start(self):
        self.refuse_over()
        return self.started

    def view(self):
        self.refuse_over()
        return self.seen

    def mine(self):
        self.refuse_over()
        return list(self.done)

    def make(self, shape):
        self.refuse_over()
        self.do_change(("table", shape))

    def order_by(self, table, column):
        self.refuse_over()
        self.do_change(("index", table, column))

    # The number counts as given only when the row stands: a put that is refused takes none.
    def put(self, table, row):
        self.refuse_over()
        number = self.store.greatest() + 1
        self.do_change(("put", table, number, row))
        self.store.note_number(number)
        return number

    def change(self, table, number, row):
        self.refuse_over()
        refuse_no_row(table_in(self.seen, table), number)
        self.do_change(("put", table, number, row))

    def drop(self, table, number):
        self.refuse_over()
        self.do_change(("drop", table, number))

    def keep(self):
        self.refuse_over()
        self.ended = True
        since = [self.store.changes(k) for k in range(self.started, self.store.many())]
        if meets(self.done, since):
            raise Clash("a dealing kept since this one's start touched what it touched")
        if len(self.done) > 0:
            self.store.add_changes(self.done)
        return self.store.many()

    def leave(self):
        self.refuse_over()
        self.ended = True

    def refuse_over(self):
        if self.ended:
            raise Over("the dealing is over")

    def do_change(self, change):
        self.seen = changed(self.seen, change)
        self.done.append(change)


def keys_of(changes):
    keys = {}
    for change in changes:
        keys[key_of(change)] = True
    return list(keys)


def meets(changes, rows):
    touched = {}
    for others in rows:
        for key in keys_of(others):
            touched[key] = True
    return any([key in touched for key in keys_of(changes)])
