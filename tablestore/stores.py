"""Stores: the row of the dealings that were kept, the states behind them, and the numbers of rows."""

from tablestore.dealings import Dealing
from tablestore.states import all_changed


class Store:
    def __init__(self):
        self.kept = []
        self.states = [{}]
        self.top_number = 0

    def many(self):
        return len(self.kept)

    def changes(self, k):
        return list(self.kept[k])

    def state(self, k):
        return self.states[k]

    def newest(self):
        return self.states[len(self.kept)]

    def greatest(self):
        return self.top_number

    def note_number(self, number):
        self.top_number = max(self.top_number, number)

    # The states come first: where a change is refused, the row stays as it is.
    def add_changes(self, changes):
        self.states.append(all_changed(self.newest(), changes))
        self.kept.append(list(changes))


def begin(store):
    return Dealing(store)


def store_of(rows):
    store = Store()
    for changes in rows:
        if len(changes) > 0:
            store.add_changes(changes)
            for change in changes:
                note_number_in(store, change)
    return store


def note_number_in(store, change):
    if change[0] == "put" or change[0] == "drop":
        store.note_number(change[2])
