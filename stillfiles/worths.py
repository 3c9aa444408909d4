"""Names, worths and kinds, and how worths and rows rise (promise 4)."""

from stillfiles.wholes import is_whole, is_within

NUMBER_KINDS = ("small", "whole")
TEXT_KINDS = ("sign", "word")
SMALL_MOST = 99
WHOLE_MOST = 1_000_000_000_000
NAME_MOST = 6
WORD_MOST = 8
# Each wider kind, and the one kind that it is wider than.
WIDER = {"whole": "small", "word": "sign"}


def is_letters(least, most, thing):
    """Whether a thing is a text of so many letters a to z."""
    if not isinstance(thing, str) or not least <= len(thing) <= most:
        return False
    return thing == "" or (thing.isascii() and thing.isalpha() and thing.islower())


def is_name(thing):
    return is_letters(1, NAME_MOST, thing)


def is_worth(thing):
    return fits("whole", thing) or fits("word", thing)


def are_worths(thing):
    """Whether a thing is a tuple of worths, of any many."""
    return isinstance(thing, tuple) and all([is_worth(worth) for worth in thing])


def is_kind(thing):
    return thing in NUMBER_KINDS or thing in TEXT_KINDS


def fits(kind, thing):
    if thing is None:
        return True
    if kind == "small":
        return is_within(-SMALL_MOST, SMALL_MOST, thing)
    if kind == "whole":
        return is_within(-WHOLE_MOST, WHOLE_MOST, thing)
    if kind == "sign":
        return is_letters(1, 1, thing)
    return is_letters(0, WORD_MOST, thing)


def is_wider(kind, other):
    return WIDER.get(kind) == other


def are_of_one_sort(worth, other):
    """Whether both are numbers, or both texts: only such are compared by size."""
    if is_whole(worth):
        return is_whole(other)
    return isinstance(worth, str) and isinstance(other, str)


def worth_order(worth):
    # Python compares no number with None or a text, but tuples of one build.
    if worth is None:
        return (0, 0, "")
    if isinstance(worth, str):
        return (2, 0, worth)
    return (1, worth, "")


def row_order(row):
    return tuple([worth_order(worth) for worth in row])


def rising(rows):
    return tuple(sorted(rows, key=row_order))
