"""A desk: rows of text are said to it, and it answers by texts."""

from tablestore.answers import NO_SENSE, answer_text, refusal_text
from tablestore.asking import fault_in, read
from tablestore.checking import bound
from tablestore.doing import answer
from tablestore.errors import BadLog, Clash, TableError
from tablestore.journals import log_of, risen
from tablestore.records import read_change
from tablestore.shapes import is_name
from tablestore.stores import Store, begin
from tablestore.values import FIGURES

# The words of a desk's own, under which no dealing can be open.
OWN_WORDS = ("begin", "stop")
MOST_FIGURES = 6
# The words of a dealing that a line of the log tells as well, and that line's word.
LINE_WORDS = {"make": "table", "order": "index", "change": "put", "drop": "drop"}


class Desk:
    def __init__(self):
        self.store = Store()
        self.dealings = {}

    def log(self):
        return log_of(self.store)

    def say(self, row):
        pieces = row.partition(" ")
        if pieces[0] == "begin":
            return [self.begin_under(pieces[2])]
        if pieces[0] == "stop":
            return [self.stop_by(pieces[2])]
        if not is_dealing_name(pieces[0]):
            return [NO_SENSE]
        if pieces[0] not in self.dealings:
            return ["refused: no dealing"]
        return self.say_to(pieces[0], pieces[2])

    def begin_under(self, name):
        if not is_dealing_name(name):
            return NO_SENSE
        if name in self.dealings:
            return "refused: open"
        self.dealings[name] = begin(self.store)
        return "begun"

    def stop_by(self, figures):
        if not is_count(figures):
            return NO_SENSE
        text = self.log()
        self.store = risen(text[:max(len(text) - int(figures), 0)])
        self.dealings = {}
        many = self.store.many()
        return f"up {many}"

    def say_to(self, name, row):
        if row == "keep":
            return [self.keep_under(name)]
        if row == "leave":
            self.dealings.pop(name).leave()
            return ["left"]
        pieces = row.partition(" ")
        if pieces[0] == "ask" and pieces[1] == " ":
            return asked(self.dealings[name], pieces[2])
        return [deed_answered(self.dealings[name], pieces)]

    def keep_under(self, name):
        dealing = self.dealings.pop(name)
        try:
            many = dealing.keep()
        except Clash as error:
            return refusal_text(error)
        return f"kept {many}"


def is_dealing_name(word):
    return is_name(word) and word not in OWN_WORDS


def is_count(word):
    if word == "" or len(word) > MOST_FIGURES or not all([sign in FIGURES for sign in word]):
        return False
    return word == "0" or not word.startswith("0")


def asked(dealing, question):
    place = fault_in(question)
    if place is not None:
        return [f"refused: question at {place}"]
    view = dealing.view()
    try:
        tree = bound(read(question), shapes_in(view))
    except TableError as error:
        return [refusal_text(error)]
    rows = answer(tree, view)
    return ["no rows"] if rows == [] else [answer_text(values) for values in rows]


def shapes_in(state):
    shapes = {}
    for name in state:
        shapes[name] = state[name].shape
    return shapes


# The pieces are a deed's word, the blank behind it, and the rest.
def deed_answered(dealing, pieces):
    try:
        change = read_change(line_of(pieces))
    except BadLog:
        return NO_SENSE
    try:
        return deed_done(dealing, pieces[0], change)
    except TableError as error:
        return refusal_text(error)


# The line by which a log would tell the deed; where there is none, one that is no line of a change.
def line_of(pieces):
    if pieces[0] in LINE_WORDS:
        return LINE_WORDS[pieces[0]] + pieces[1] + pieces[2]
    if pieces[0] != "put":
        return ""
    # A put bears no number here; any that a row can have fills its place in the line.
    named = pieces[2].partition(" ")
    return "put " + named[0] + " 1" + named[1] + named[2]


def deed_done(dealing, word, change):
    if word == "put":
        number = dealing.put(change[1], change[3])
        return f"row {number}"
    if word == "make":
        dealing.make(change[1])
    elif word == "order":
        dealing.order_by(change[1], change[2])
    elif word == "change":
        dealing.change(change[1], change[2], change[3])
    else:
        dealing.drop(change[1], change[2])
    return "done"


def answered(text):
    desk = Desk()
    texts = []
    for row in text.split("\n"):
        texts.extend(desk.say(row))
    return texts
