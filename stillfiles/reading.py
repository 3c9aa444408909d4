"""A commit, read: its entries, which rows are away, rows told (promises 17 and 18)."""

from stillfiles.commits import entries_at, shape_of, told_commit
from stillfiles.conditions import bound
from stillfiles.errors import NoFile
from stillfiles.standing import found_rows, split_rows
from stillfiles.telling import named_places, told_rows


def commit_of(head, number):
    return told_commit(head, number)


def entries_of(place, head, number):
    return entries_at(place, told_commit(head, number))


def away(place, head, number, file):
    entries = entries_of(place, head, number)
    for entry in entries:
        if entry[0] == "data" and entry[1] == file:
            _, away_ones = split_rows(place, head, entry, entries)
            return tuple([at for at, _ in away_ones])
    raise NoFile(file)


def rows_of(place, head, number, *, where=(), names=None, by=None):
    commit = told_commit(head, number)
    shape = shape_of(head, commit)
    tests = bound(shape, where)
    places = named_places(shape, names)
    rows = []
    for _, found in found_rows(place, head, commit, tests):
        rows.extend([row for _, row in found])
    return told_rows(rows, places, by)
