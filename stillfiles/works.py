"""Works, what a Writer's deeds make (promise 24), and the place of each thing in one."""

WORD = 0
TITLE = 1
NUMBER = 2
BASE = 3
READS = 4
PUTS = 5
TAKES = 6
MARKS = 7
KEYS = 8
MORE = 9


def made_work(base, word, *, reads=None, puts=(), takes=(), marks=(), keys=(), more=None):
    return (word, base.title, base.turn, base.number, reads, puts, takes, marks, keys, more)


def entries_brought(work, order):
    """The entries, of this order, for the files that a work brings."""
    puts = [("data", file, order, *rest) for _, file, *rest in work[PUTS]]
    marks = [("marks", file, order, data, many) for file, data, many in work[MARKS]]
    keys = [("key", file, order, number, worth) for file, number, worth in work[KEYS]]
    return (*puts, *marks, *keys)
