"""Columns, shapes and rows (promise 5), and changes of a shape (promise 6)."""

from stillfiles.errors import Full, Last, NoChange, NoColumn, NoFit, NoShape, Taken, Used
from stillfiles.wholes import all_unlike, is_from
from stillfiles.worths import fits, is_kind, is_name, is_wider

COLUMNS_MOST = 8
CHANGES_MOST = 4


def is_column(thing):
    if not isinstance(thing, tuple) or len(thing) != 4:
        return False
    number, name, kind, fill = thing
    return is_from(1, number) and is_name(name) and is_kind(kind) and fits(kind, fill)


def is_shape(thing):
    if not isinstance(thing, tuple) or not 1 <= len(thing) <= COLUMNS_MOST:
        return False
    if not all([is_column(column) for column in thing]):
        return False
    return all_unlike([column[0] for column in thing]) and all_unlike([column[1] for column in thing])


def numbered(columns):
    """The shape that columns (name, kind, fill) are once they are numbered from 1."""
    if not isinstance(columns, tuple) or not all([isinstance(column, tuple) for column in columns]):
        raise NoShape()
    shape = tuple([(number, *column) for number, column in enumerate(columns, start=1)])
    if not is_shape(shape):
        raise NoShape()
    return shape


def is_row(shape, thing):
    if not isinstance(thing, tuple) or len(thing) != len(shape):
        return False
    return all([fits(column[2], worth) for column, worth in zip(shape, thing)])


def read_by(shape, other, row):
    worths = {column[0]: worth for column, worth in zip(shape, row)}
    return tuple([worths.get(column[0], column[3]) for column in other])


def column_called(shape, name):
    """The column of this name, None where there is none."""
    for column in shape:
        if column[1] == name:
            return column
    return None


def is_change(thing):
    if not isinstance(thing, tuple) or len(thing) < 2 or not is_name(thing[1]):
        return False
    word, many = thing[0], len(thing)
    if word == "add":
        return many == 4 and is_kind(thing[2]) and fits(thing[2], thing[3])
    if word == "out":
        return many == 2
    if word == "name":
        return many == 3 and is_name(thing[2])
    return word == "widen" and many == 3 and is_kind(thing[2])


def are_so_many(changes):
    return isinstance(changes, tuple) and len(changes) <= CHANGES_MOST


def are_changes(thing):
    return are_so_many(thing) and all([is_change(change) for change in thing])


def check_changes(changes):
    if not are_so_many(changes):
        raise NoChange(-1)
    for place, change in enumerate(changes):
        if not is_change(change):
            raise NoChange(place)


def reshaped(shape, next_number, changes):
    return reshaped_by(shape, (), next_number, changes)


def reshaped_by(shape, rule, next_number, changes):
    """The same, where no column of a bound rule may go (promise 24)."""
    check_changes(changes)
    for change in changes:
        if change[0] == "add":
            shape = added(shape, next_number, change)
            next_number += 1
        elif change[0] == "out":
            shape = left_out(shape, rule, change[1])
        elif change[0] == "name":
            shape = renamed(shape, change[1], change[2])
        else:
            shape = widened(shape, change[1], change[2])
    return shape, next_number


def added(shape, number, change):
    name = change[1]
    if column_called(shape, name) is not None:
        raise Taken(name)
    if len(shape) == COLUMNS_MOST:
        raise Full()
    return (*shape, (number, *change[1:]))


def left_out(shape, rule, name):
    column = column_called(shape, name)
    if column is None:
        raise NoColumn(name)
    if column[0] in [field[0] for field in rule]:
        raise Used(name)
    if len(shape) == 1:
        raise Last()
    return tuple([column for column in shape if column[1] != name])


def renamed(shape, name, new):
    column = column_called(shape, name)
    if column is None:
        raise NoColumn(name)
    if column_called(shape, new) is not None:
        raise Taken(new)
    return with_column(shape, (column[0], new, column[2], column[3]))


def widened(shape, name, kind):
    column = column_called(shape, name)
    if column is None:
        raise NoColumn(name)
    if not is_wider(kind, column[2]):
        raise NoFit(name)
    return with_column(shape, (column[0], name, kind, column[3]))


def with_column(shape, new):
    """The shape with this column in the place of its one of the same number."""
    return tuple([new if column[0] == new[0] else column for column in shape])
