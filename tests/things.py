"""Things of many kinds that are no values, for the functions that answer of anything."""


class Yes:
    """Says of everything that it is the same, and has a length and a first thing."""

    def __eq__(self, other):
        return True

    def __hash__(self):
        return 0

    def __len__(self):
        return 2

    def __getitem__(self, place):
        return "number"


class Cross:
    """Fails whatever is asked of it."""

    def fail(self, *others):
        raise RuntimeError("asked")

    __eq__ = __ne__ = __lt__ = __le__ = __gt__ = __ge__ = fail
    __hash__ = __len__ = __bool__ = __iter__ = __getitem__ = __contains__ = fail
    __str__ = __index__ = __int__ = __abs__ = __call__ = fail

    def __repr__(self):
        return "Cross()"


def own_list():
    """A list that lies within itself."""
    own = []
    own.append(own)
    return own


def no_values():
    """New things, none of which is a value, a name, a shape or a row."""
    return [
        True, False, 0.0, 1.5, float("nan"), float("inf"), 1j, b"", b"abc", bytearray(b"a"),
        [], [1], ["abc"], {}, {"abc": 1}, set(), {1}, frozenset(), range(2), object(), object,
        int, str, len, NotImplemented, Ellipsis, Yes(), Cross(), own_list(), iter(()), lambda: None,
    ]
