"""Rules of parts, and the parts of rows by them (promise 9)."""

from stillfiles.errors import NoColumn, NoFit, NoRule
from stillfiles.shapes import column_called
from stillfiles.wholes import all_unlike, is_from, is_whole, is_within
from stillfiles.worths import NUMBER_KINDS, TEXT_KINDS, are_worths, is_name

FIELDS_MOST = 3
# The greatest k of each word; `same` has none.
MOST = {"range": 1000, "rest": 100, "first": 8}


def is_way(thing):
    if thing == ("same",):
        return True
    if not isinstance(thing, tuple) or len(thing) != 2 or not isinstance(thing[0], str):
        return False
    return thing[0] in MOST and is_within(1, MOST[thing[0]], thing[1])


def are_fields(thing):
    """Whether a thing is a rule, but for what its fields have as columns."""
    if not isinstance(thing, tuple) or len(thing) > FIELDS_MOST:
        return False
    return all([isinstance(field, tuple) and len(field) == 2 and is_way(field[1]) for field in thing])


def is_rule(thing):
    """Whether a thing is a rule as it is handed in, by names of columns."""
    if not are_fields(thing):
        return False
    names = [field[0] for field in thing]
    return all([is_name(name) for name in names]) and all_unlike(names)


def is_bound_rule(thing):
    if not are_fields(thing):
        return False
    numbers = [field[0] for field in thing]
    return all([is_from(1, number) for number in numbers]) and all_unlike(numbers)


def is_part(thing):
    return are_worths(thing) and len(thing) <= FIELDS_MOST


def way_fits(way, kind):
    if way[0] == "same":
        return True
    return kind in TEXT_KINDS if way[0] == "first" else kind in NUMBER_KINDS


def bound_rule(shape, rule):
    if not is_rule(rule):
        raise NoRule()
    fields = []
    for name, way in rule:
        column = column_called(shape, name)
        if column is None:
            raise NoColumn(name)
        if not way_fits(way, column[2]):
            raise NoFit(name)
        fields.append((column[0], way))
    return tuple(fields)


def can_tell(way, worth):
    """Whether a way makes a field of this worth."""
    if worth is None or way[0] == "same":
        return True
    return isinstance(worth, str) if way[0] == "first" else is_whole(worth)


def field_of(way, worth):
    if worth is None or way[0] == "same":
        return worth
    if way[0] == "range":
        return worth // way[1]
    if way[0] == "rest":
        return worth % way[1]
    return worth[:way[1]]


def part_of(shape, rule, row):
    worths = {column[0]: worth for column, worth in zip(shape, row)}
    return tuple([field_of(way, worths[number]) for number, way in rule])


def part_may(rule, part, test):
    number, word, worth = test
    if word != "is":
        return True
    for (column, way), field in zip(rule, part):
        if column == number:
            return can_tell(way, worth) and field_of(way, worth) == field
    return True
