"""Rows as they are told: which columns, and how they rise (promise 18)."""

from stillfiles.errors import NoColumn
from stillfiles.worths import rising


def named_places(shape, names):
    """The places in rows of a shape of the columns that are named, of all without names."""
    if names is None:
        return list(range(len(shape)))
    called = [column[1] for column in shape]
    for name in names:
        if name not in called:
            raise NoColumn(name)
    return [called.index(name) for name in names]


def told_rows(rows, places, by):
    told = rising([tuple([row[at] for at in places]) for row in rows])
    if by is None:
        return told
    # What is sorted stays as it was where `by` tells alike, so alike ones rise.
    return tuple(sorted(told, key=lambda row: by(row)))
