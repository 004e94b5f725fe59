"""Logs: records read out of a text, the log of a store, and a store that comes up from one."""

from tablestore.errors import BadLog, TableError
from tablestore.records import RECORD_END, SIZE_FIGURES, read_change, record
from tablestore.stores import store_of
from tablestore.values import FIGURES

# The figures that tell a body's size, and a line end.
HEAD_SIGNS = 10


def read_records(text):
    return [pair[0] for pair in whole_records(text)]


def ends_in(text):
    return [pair[1] for pair in whole_records(text)]


# Of each whole record its changes and the place right behind it.
def whole_records(text):
    records = []
    start = 0
    end = record_end(text, start)
    while end is not None:
        records.append((changes_between(text, start + HEAD_SIGNS, end), end))
        start = end
        end = record_end(text, start)
    return records


# Where the record ends that begins at a place; None where it is torn, or where the text is over.
def record_end(text, start):
    head = text[start:start + HEAD_SIGNS]
    figures = head[:SIZE_FIGURES]
    if not all([sign in FIGURES for sign in figures]) or head[SIZE_FIGURES:] not in ("", "\n"):
        raise BadLog(f"a record that begins otherwise than by figures and a line end: {head!r}")
    if len(head) < HEAD_SIGNS:
        return None
    end = start + HEAD_SIGNS + int(figures) + len(RECORD_END)
    return end if end <= len(text) else None


def changes_between(text, start, end):
    body = text[start:end - len(RECORD_END)]
    if text[end - len(RECORD_END):end] != RECORD_END:
        raise BadLog("a record without its end")
    if not body.endswith("\n"):
        raise BadLog("a record without changes, or whose last line has no end")
    return [read_change(line) for line in body[:-1].split("\n")]


def log_of(store):
    return "".join([record(store.changes(k)) for k in range(store.many())])


def risen(text):
    rows = read_records(text)
    try:
        return store_of(rows)
    except TableError as error:
        raise BadLog("a log whose changes can't be done") from error
