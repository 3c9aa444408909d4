"""Which rows of data files stand at a commit (promise 17)."""

from stillfiles.commits import fill_of, shape_of
from stillfiles.conditions import row_meets
from stillfiles.planning import planned
from stillfiles.shapes import read_by


def marked_places(place, entry, entries):
    """The places of a data entry's rows that its marks have, as keys."""
    marked = {}
    for other in entries:
        if other[0] == "marks" and other[3] == entry[1]:
            for at in place.read(other[1])[2]:
                marked[at] = True
    return marked


def later_keys(entry, entries):
    """(number, worth) of each key of a greater order than a data entry's."""
    return [(other[3], other[4]) for other in entries if other[0] == "key" and other[2] > entry[2]]


def has_key(head, entry, row, keys):
    """Whether a row of a data entry's file has the worth of one of the keys."""
    worths = {column[0]: worth for column, worth in zip(head[2][entry[4]], row)}
    for number, worth in keys:
        if worths.get(number, fill_of(head, number)) == worth:
            return True
    return False


def split_rows(place, head, entry, entries):
    """(place, row) of the rows of a data entry's file that stand, and of those that are away."""
    rows = place.read(entry[1])[4]
    marked = marked_places(place, entry, entries)
    keys = later_keys(entry, entries)
    standing, away_ones = [], []
    for at, row in enumerate(rows):
        is_away = at in marked or has_key(head, entry, row, keys)
        side = away_ones if is_away else standing
        side.append((at, row))
    return standing, away_ones


def read_rows(place, head, commit, entry, entries):
    """(place, row) of the rows of a data entry's file that stand, read by the shape of a commit."""
    standing, _ = split_rows(place, head, entry, entries)
    own, other = head[2][entry[4]], shape_of(head, commit)
    return [(at, read_by(own, other, row)) for at, row in standing]


def found_rows(place, head, commit, tests):
    """For each planned data file (its name, (place, row) of its rows that stand and meet the tests)."""
    shape = shape_of(head, commit)
    entries, datas, _ = planned(place, head, commit, tests)
    found = []
    for entry in datas:
        rows = read_rows(place, head, commit, entry, entries)
        found.append((entry[1], [(at, row) for at, row in rows if row_meets(shape, tests, row)]))
    return found


def is_met(place, head, commit, entry, entries, tests):
    """Whether a row of a data entry's file that stands meets all tests, which are bound by the shape of a commit."""
    shape = shape_of(head, commit)
    rows = read_rows(place, head, commit, entry, entries)
    return any([row_meets(shape, tests, row) for _, row in rows])
