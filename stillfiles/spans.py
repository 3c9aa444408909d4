"""Spans of a column's worths, and which tests a span may meet (promise 8)."""

from stillfiles.worths import are_of_one_sort, worth_order


def least_of(worths):
    """The least of the worths but None, as worths stand; None of none."""
    return min([worth for worth in worths if worth is not None], key=worth_order, default=None)


def greatest_of(worths):
    return max([worth for worth in worths if worth is not None], key=worth_order, default=None)


def span_of(number, worths):
    blanks = [worth for worth in worths if worth is None]
    return (number, least_of(worths), greatest_of(worths), len(blanks))


def spans_of(shape, rows):
    """The spans of all columns of a shape, in their order."""
    return tuple([span_of(column[0], [row[at] for row in rows]) for at, column in enumerate(shape)])


def may_meet(span, test):
    """Of a span, or of a whole one: it begins with the same four."""
    least, greatest, blanks = span[1], span[2], span[3]
    word, bar = test[1], test[2]
    if word == "is" and bar is None:
        return blanks > 0
    if not are_of_one_sort(least, bar):
        return False
    if word == "is":
        return stand_so(least, bar) and stand_so(bar, greatest)
    if word == "below":
        return not stand_so(bar, least)
    return stand_so(bar, greatest)


def stand_so(worth, other):
    return worth_order(worth) <= worth_order(other)
