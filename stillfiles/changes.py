"""What changed between two commits, and changes put on rows (promise 34)."""

from stillfiles.commits import data_entries, entries_at, told_commit
from stillfiles.errors import NoCommit, NoRow
from stillfiles.standing import read_rows
from stillfiles.worths import are_worths, rising


def away_by(entry, entries):
    """By which files rows of a data entry's file are away: its marks, and keys of a greater order than its own."""
    marks = [other[1] for other in entries if other[0] == "marks" and other[3] == entry[1]]
    keys = [other[1] for other in entries if other[0] == "key" and other[2] > entry[2]]
    return sorted(set([*marks, *keys]))


def is_had_so(entry, entries, others):
    """Whether just the same rows of a data entry's file stand by the entries of another commit, as these tell alone."""
    for other in data_entries(others):
        if other[1] == entry[1]:
            return other[2] == entry[2] and away_by(other, others) == away_by(entry, entries)
    return False


def rows_apart(place, head, commit, entries, others):
    """The rows that stand by entries, but of files that others have just so; read by the shape of a commit."""
    rows = []
    for entry in data_entries(entries):
        if not is_had_so(entry, entries, others):
            rows.extend([row for _, row in read_rows(place, head, commit, entry, entries)])
    return rows


def counts_of(rows):
    counts = {}
    for row in rows:
        counts[row] = counts.get(row, 0) + 1
    return counts


def more_often(rows, others):
    """The rows that are there oftener than in others, as often as they are more, rising."""
    left = counts_of(others)
    more = []
    for row in rows:
        if left.get(row, 0) > 0:
            left[row] -= 1
        else:
            more.append(row)
    return rising(more)


def changes_of(place, head, one, other):
    elder, newer = told_commit(head, one), told_commit(head, other)
    if other < one:
        raise NoCommit(other)
    then, now = entries_at(place, elder), entries_at(place, newer)
    # Both are read by the newer shape, so what both have just so is the same rows.
    had = rows_apart(place, head, newer, then, now)
    has = rows_apart(place, head, newer, now, then)
    return more_often(had, has), more_often(has, had)


def put_on(rows, changes):
    gone, come = changes
    left = counts_of(rows)
    for place, row in enumerate(gone):
        if not are_worths(row) or left.get(row, 0) == 0:
            raise NoRow(place)
        left[row] -= 1
    return rising([*more_often(rows, gone), *come])
