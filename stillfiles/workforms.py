"""The forms of what works have (promise 24), whoever wrote them."""

from stillfiles.conditions import is_bound_condition
from stillfiles.entries import is_data_entry, is_key_entry, is_marks_entry
from stillfiles.filenames import names_file
from stillfiles.meeting import MARKING
from stillfiles.parts import is_bound_rule
from stillfiles.shapes import are_changes
from stillfiles.tuples import is_of
from stillfiles.wholes import all_unlike, is_from
from stillfiles.works import KEYS, MARKS, PUTS, TAKES, WORD
from stillfiles.worths import is_name

# Words of works that put files.
PUTTING = ("put", "change", "gather")


# What a work tells of a file is as the entry for it, but that the work can't know the order.
def is_put(thing):
    return is_of(7, thing) and thing[0] == "data" and is_data_entry((*thing[:2], 0, *thing[2:]))


def is_mark(thing):
    return is_of(3, thing) and is_marks_entry(("marks", thing[0], 0, *thing[1:]))


def is_brought_key(thing):
    return is_of(3, thing) and is_key_entry(("key", thing[0], 0, *thing[1:]))


def are_puts(thing):
    return isinstance(thing, tuple) and all([is_put(put) for put in thing])


def are_takes(thing):
    if not isinstance(thing, tuple) or not all([names_file("d", file) for file in thing]):
        return False
    return all_unlike(thing)


def are_marks(thing):
    """Whether a thing is what a work marks: of one data file just once."""
    if not isinstance(thing, tuple) or not all([is_mark(mark) for mark in thing]):
        return False
    return all_unlike([data for _, data, _ in thing])


def are_reads(word, thing):
    return is_bound_condition(thing) if word in MARKING else thing is None


def has_files(work):
    """Whether a work has files where its word asks for such, and else none."""
    word = work[WORD]
    puts, takes, marks, keys = work[PUTS], work[TAKES], work[MARKS], work[KEYS]
    if not (are_puts(puts) if word in PUTTING else puts == ()):
        return False
    if not (are_takes(takes) if word == "gather" else takes == ()):
        return False
    if not (are_marks(marks) if word in MARKING else marks == ()):
        return False
    return is_of(1, keys) and is_brought_key(keys[0]) if word == "key" else keys == ()


def is_more(word, thing):
    """Whether a thing is what a work of this word has behind its files."""
    if word == "change":
        return is_from(1, thing)
    if word == "reshape":
        return are_changes(thing)
    if word == "rerule":
        return is_bound_rule(thing)
    if word == "back":
        return is_from(0, thing)
    if word == "tag":
        return is_of(2, thing) and is_name(thing[0]) and is_from(0, thing[1])
    if word == "untag":
        return is_name(thing)
    if word == "let":
        return is_of(2, thing) and is_from(1, thing[0]) and is_from(0, thing[1])
    return thing is None
