"""Tests and conditions, and which worths meet a test (promise 7)."""

from stillfiles.errors import NoColumn, NoCond
from stillfiles.wholes import is_from
from stillfiles.worths import are_of_one_sort, is_name, is_worth

WORDS = ("is", "below", "from")
TESTS_MOST = 4


def are_tests(thing):
    """Whether a thing is a condition, but for what its tests have as columns."""
    if not isinstance(thing, tuple) or len(thing) > TESTS_MOST:
        return False
    if not all([isinstance(test, tuple) and len(test) == 3 for test in thing]):
        return False
    return all([word in WORDS and is_worth(worth) for _, word, worth in thing])


def is_condition(thing):
    """Whether a thing is a condition as it is handed in, by names of columns."""
    return are_tests(thing) and all([is_name(test[0]) for test in thing])


def is_bound_condition(thing):
    return are_tests(thing) and all([is_from(1, test[0]) for test in thing])


def bound(shape, where):
    if not is_condition(where):
        raise NoCond()
    numbers = {column[1]: column[0] for column in shape}
    for test in where:
        if test[0] not in numbers:
            raise NoColumn(test[0])
    return tuple([(numbers[name], word, worth) for name, word, worth in where])


def meets(test, worth):
    word, bar = test[1], test[2]
    if word == "is":
        return worth == bar
    if not are_of_one_sort(worth, bar):
        return False
    if word == "below":
        return worth < bar
    return worth >= bar


def row_meets(shape, tests, row):
    """Whether a row of a shape meets tests that are bound by it."""
    worths = {column[0]: worth for column, worth in zip(shape, row)}
    return all([meets(test, worths[test[0]]) for test in tests])
