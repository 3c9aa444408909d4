"""The forms of entries and spans (promises 8 and 11), of rows of lists and whole spans (promise 12)."""

from stillfiles.filenames import names_file
from stillfiles.parts import is_part
from stillfiles.wholes import is_from
from stillfiles.worths import is_worth

SPANS_MOST = 8


def begins_span(thing):
    """Whether the first four things of a tuple are as those of a span are."""
    return is_from(1, thing[0]) and is_worth(thing[1]) and is_worth(thing[2]) and is_from(0, thing[3])


def is_span(thing):
    return isinstance(thing, tuple) and len(thing) == 4 and begins_span(thing)


def is_whole_span(thing):
    return isinstance(thing, tuple) and len(thing) == 5 and begins_span(thing) and is_from(0, thing[4])


def are_spans(thing):
    if not isinstance(thing, tuple) or len(thing) > SPANS_MOST:
        return False
    return all([is_span(span) for span in thing])


def is_data_entry(thing):
    if len(thing) != 8:
        return False
    file, order, many, shape, rule, part, spans = thing[1:]
    if not (names_file("d", file) and is_from(0, order) and is_from(1, many)):
        return False
    return is_from(0, shape) and is_from(0, rule) and is_part(part) and are_spans(spans)


def is_marks_entry(thing):
    if len(thing) != 5:
        return False
    file, order, data, many = thing[1:]
    return names_file("m", file) and is_from(0, order) and names_file("d", data) and is_from(1, many)


def is_key_entry(thing):
    if len(thing) != 5:
        return False
    file, order, number, worth = thing[1:]
    return names_file("k", file) and is_from(0, order) and is_from(1, number) and is_worth(worth)


def is_entry(thing):
    if not isinstance(thing, tuple) or thing == ():
        return False
    if thing[0] == "data":
        return is_data_entry(thing)
    if thing[0] == "marks":
        return is_marks_entry(thing)
    return thing[0] == "key" and is_key_entry(thing)


def is_list_row(thing):
    if not isinstance(thing, tuple) or len(thing) != 4:
        return False
    file, datas, others, whole = thing
    if not (names_file("l", file) and is_from(0, datas) and is_from(0, others)):
        return False
    return isinstance(whole, tuple) and all([is_whole_span(span) for span in whole])
