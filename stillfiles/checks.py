"""What rows, names, worths and tags of deeds are refused with (promises 21, 24 and 30)."""

from stillfiles.commits import told_commit
from stillfiles.errors import NoColumn, NoFit, NoRow, Taken
from stillfiles.shapes import column_called, is_row
from stillfiles.worths import fits


def check_rows(shape, rows):
    if not isinstance(rows, tuple):
        raise NoRow(-1)
    for at, row in enumerate(rows):
        if not is_row(shape, row):
            raise NoRow(at)


def fitting_column(shape, name, worth):
    """The number of the column of this name, which the worth fits."""
    column = column_called(shape, name)
    if column is None:
        raise NoColumn(name)
    if not fits(column[2], worth):
        raise NoFit(name)
    return column[0]


def check_tag(head, tag, number):
    if tag in [row[0] for row in head[6]]:
        raise Taken(tag)
    told_commit(head, number)
