"""The plain table: what a table's rows are by its deeds alone, without files (promise 21)."""

from stillfiles.checks import check_rows, fitting_column
from stillfiles.conditions import bound, row_meets
from stillfiles.errors import NoColumn, NoCommit, NoDeed
from stillfiles.parts import bound_rule
from stillfiles.shapes import numbered, reshaped_by
from stillfiles.telling import named_places, told_rows
from stillfiles.wholes import is_within

# How long a deed of each word is.
LENGTHS = {"put": 2, "drop": 2, "change": 4, "key": 3, "reshape": 2, "rerule": 2, "gather": 1, "back": 2}


def is_deed(thing):
    if not isinstance(thing, tuple) or thing == () or not isinstance(thing[0], str):
        return False
    return LENGTHS.get(thing[0]) == len(thing)


def seen(shape, row):
    """A row, kept as worths by columns' numbers, as a shape reads it."""
    return tuple([row.get(column[0], column[3]) for column in shape])


def check_there(elder, shape, numbers):
    """Refuses the first of these columns of an elder shape that isn't there any more."""
    now = [column[0] for column in shape]
    names = {column[0]: column[1] for column in elder}
    for number in numbers:
        if number not in now:
            raise NoColumn(names[number])


def with_put(elder, shape, rows, deed):
    check_rows(elder, deed[1])
    numbers = [column[0] for column in elder]
    return [*rows, *[dict(zip(numbers, row)) for row in deed[1]]]


def with_drop(elder, shape, rows, deed):
    tests = bound(elder, deed[1])
    check_there(elder, shape, [test[0] for test in tests])
    return [row for row in rows if not row_meets(shape, tests, seen(shape, row))]


def with_change(elder, shape, rows, deed):
    _, where, name, worth = deed
    tests = bound(elder, where)
    number = fitting_column(elder, name, worth)
    check_there(elder, shape, [*[test[0] for test in tests], number])
    return [{**row, number: worth} if row_meets(shape, tests, seen(shape, row)) else row for row in rows]


def with_key(elder, shape, rows, deed):
    _, name, worth = deed
    number = fitting_column(elder, name, worth)
    check_there(elder, shape, [number])
    return [row for row in rows if not row_meets(shape, ((number, "is", worth),), seen(shape, row))]


# Each is handed the shape behind base, the shape and rows as they are now, and the deed.
ROW_DEEDS = {"put": with_put, "drop": with_drop, "change": with_change, "key": with_key}


class Plain:
    """A table of rows, and what it was behind each of its deeds."""

    def __init__(self, columns, *, rule=()):
        shape = numbered(columns)
        self._rule = bound_rule(shape, rule)
        self._next = len(shape) + 1
        self._deeds = []
        # (shape, rows) behind each number of deeds, from 0 on; a row keeps what is put out, unseen.
        self._states = [(shape, [])]

    def __len__(self):
        return len(self._deeds)

    def __eq__(self, other):
        if not isinstance(other, Plain):
            return NotImplemented
        return self.shape() == other.shape() and self.rows() == other.rows()

    def do(self, deed, *, base=None):
        if not is_deed(deed):
            raise NoDeed(deed)
        elder, _ = self._state(base)
        shape, rows = self._states[-1]
        word = deed[0]
        if word in ROW_DEEDS:
            action = ROW_DEEDS[word]
            rows = action(elder, shape, rows, deed)
        elif word == "reshape":
            shape, self._next = reshaped_by(shape, self._rule, self._next, deed[1])
        elif word == "rerule":
            self._rule = bound_rule(shape, deed[1])
        elif word == "back":
            rows = self._back(deed[1])
        self._deeds.append(word)
        self._states.append((shape, rows))

    def rows(self, *, at=None, where=(), names=None):
        shape, rows = self._state(at)
        tests = bound(shape, where)
        places = named_places(shape, names)
        told = [seen(shape, row) for row in rows]
        return told_rows([row for row in told if row_meets(shape, tests, row)], places, None)

    def shape(self, *, at=None):
        shape, _ = self._state(at)
        return shape

    def rule(self):
        return self._rule

    def _state(self, at):
        """The shape and the rows behind so many deeds, as they are now of None."""
        if at is None:
            return self._states[-1]
        return self._told_state(at)

    def _told_state(self, many):
        if not is_within(0, len(self._deeds), many):
            raise NoCommit(many)
        return self._states[many]

    def _back(self, many):
        _, rows = self._told_state(many)
        return rows
