"""The files of a table whose head is right, by their names, and the same otherwise, for the tests of faults and findings."""

from right_contents import with_place
from stillfiles.listing import list_row

NAME, MANY, MARK = (1, "name", "word", "none"), (2, "many", "small", 0), (3, "mark", "sign", "x")
WIDE = (2, "many", "whole", 0)
SHAPES = ((NAME, MANY), (NAME, WIDE, MARK))
RULES = ((), ((2, ("range", 10)),), ((3, ("same",)), (1, ("first", 1))))

ROWS = (("fig", 3), ("kiwi", 5), (None, None))
FILES = {
    "d1": ("data", 0, 0, (), ROWS),
    "l2": ("list", (("data", "d1", 1, 3, 0, 0, (), ((1, "fig", "kiwi", 1), (2, 3, 5, 1))),)),
    "s3": ("lists", (("l2", 1, 0, ((1, "fig", "kiwi", 1, 0), (2, 3, 5, 1, 0))),)),
    "s4": ("lists", ()),
    "m5": ("marks", "d1", (0, 2)),
    "d6": ("data", 1, 2, ("q", "p"), (("pear", 300, "q"), ("plum", -300, "q"))),
    "k7": ("key", 2, 5),
    "l8": ("list", (
        ("data", "d6", 2, 2, 1, 2, ("q", "p"), ((1, "pear", "plum", 0), (2, -300, 300, 0), (3, "q", "q", 0))),
        ("marks", "m5", 2, "d1", 2),
        ("key", "k7", 2, 2, 5),
    )),
    "s9": ("lists", (
        ("l2", 1, 0, ((1, "fig", "kiwi", 1, 0), (2, 3, 5, 1, 0))),
        ("l8", 1, 2, ((1, "pear", "plum", 0, 0), (2, -300, 300, 0, 0), (3, "q", "q", 0, 0))),
    )),
    # What is gathered has the order of the commit that the gathering read.
    "d10": ("data", 1, 1, (-30,), (("plum", -300, "q"),)),
    "d11": ("data", 1, 1, (30,), (("pear", 300, "q"), ("date", 309, None))),
    "l12": ("list", (
        ("data", "d10", 2, 1, 1, 1, (-30,), ((1, "plum", "plum", 0), (2, -300, -300, 0), (3, "q", "q", 0))),
        ("data", "d11", 2, 2, 1, 1, (30,), ((1, "date", "pear", 0), (2, 300, 309, 0), (3, "q", "q", 1))),
        ("key", "k7", 2, 2, 5),
    )),
    "s13": ("lists", (("l12", 2, 1, ((1, "date", "plum", 0, 0), (2, -300, 309, 0, 0), (3, "q", "q", 1, 0))),)),
    "h14": ("head", "fruit", SHAPES, RULES, 4, (
        (0, "make", None, 0, 0, "s4", 0, 0), (1, "put", "ann", 1, 0, "s3", 0, 0), (2, "put", "ann", 2, 0, "s9", 1, 2),
        (3, "reshape", "bob", 1, 1, "s9", 1, 0), (4, "gather", "ann", 3, 2, "s13", 1, 1),
        (5, "back", "bob", 2, 2, "s3", 1, 1),
    ), (("old", 1),), (("ann", 3, 4), ("bob", 2, 5))),
}


def with_changed(name, path, new, files=None):
    """The files with a new thing at a place of one of them."""
    files = FILES if files is None else files
    return {**files, name: with_place(files[name], path, new)}


def with_rows_right(files):
    """The files, each row of lists of lists made as its list is."""
    made = dict(files)
    for name, content in files.items():
        if name[0] == "s":
            rows = [list_row(row[0], files[row[0]][1]) if row[0] in files else row for row in content[1]]
            made[name] = ("lists", tuple(rows))
    return made
