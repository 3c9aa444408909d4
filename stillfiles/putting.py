"""Rows written as data files by parts, and marks for rows (promise 24)."""

from stillfiles.parts import part_of
from stillfiles.spans import spans_of
from stillfiles.worths import rising


def put_files(shelf, base, rows, size):
    """Writes rows of the base's shape; told are the puts of a work."""
    groups = {}
    for row in rows:
        groups.setdefault(part_of(base.columns, base.fields, row), []).append(row)
    puts = []
    for part in rising(list(groups)):
        group = groups[part]
        for start in range(0, len(group), size):
            puts.append(put_file(shelf, base, part, tuple(group[start:start + size])))
    return tuple(puts)


def put_file(shelf, base, part, rows):
    shape, rule = base.commit_then[6:]
    file = shelf.write("data", ("data", shape, rule, part, rows))
    return ("data", file, len(rows), shape, rule, part, spans_of(base.columns, rows))


def mark_files(shelf, found):
    """Writes marks for rows that were found, (place, row) by data files; told are the marks of a work."""
    marks = []
    for data, rows in found:
        places = tuple([at for at, _ in rows])
        if places:
            marks.append((shelf.write("marks", ("marks", data, places)), data, len(places)))
    return tuple(marks)
