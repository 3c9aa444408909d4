"""The six contents of files by form, and names of files (promises 10 to 13)."""

from stillfiles.entries import is_entry, is_list_row
from stillfiles.filenames import LETTERS, names_file
from stillfiles.heads import HeadForm, is_head_top
from stillfiles.parts import is_part
from stillfiles.shapes import COLUMNS_MOST
from stillfiles.tuples import is_some
from stillfiles.wholes import is_from
from stillfiles.worths import are_worths, is_worth


def is_file(thing, *, letter=None):
    return names_file(LETTERS if letter is None else letter, thing)


def is_data_row(thing):
    """Whether a thing is a row of some shape, by its length and worths alone."""
    return are_worths(thing) and 1 <= len(thing) <= COLUMNS_MOST


def is_data_top(shape, rule, part):
    return is_from(0, shape) and is_from(0, rule) and is_part(part)


def is_data(thing):
    if len(thing) != 5 or not is_data_top(thing[1], thing[2], thing[3]):
        return False
    rows = thing[4]
    if not is_some(rows) or not all([is_data_row(row) for row in rows]):
        return False
    return all([len(row) == len(rows[0]) for row in rows])


def is_marks(thing):
    if len(thing) != 3 or not names_file("d", thing[1]):
        return False
    places = thing[2]
    if not is_some(places) or not all([is_from(0, place) for place in places]):
        return False
    return all([place < later for place, later in zip(places, places[1:])])


def is_key(thing):
    return len(thing) == 3 and is_from(1, thing[1]) and is_worth(thing[2])


def is_list(thing):
    if len(thing) != 2 or not is_some(thing[1]):
        return False
    return all([is_entry(entry) for entry in thing[1]])


def is_lists(thing):
    if len(thing) != 2 or not isinstance(thing[1], tuple):
        return False
    return all([is_list_row(row) for row in thing[1]])


def is_head(thing):
    if len(thing) != 8 or not is_head_top(thing[1], thing[4]):
        return False
    form = HeadForm(thing[4])
    groups = (("shape", thing[2]), ("rule", thing[3]), ("commit", thing[5]), ("tag", thing[6]), ("done", thing[7]))
    for word, pieces in groups:
        if not isinstance(pieces, tuple):
            return False
        for piece in pieces:
            if not form.takes(word, piece):
                return False
    return form.may_end()


FORMS = {
    "data": is_data,
    "marks": is_marks,
    "key": is_key,
    "list": is_list,
    "lists": is_lists,
    "head": is_head,
}


def is_content(thing):
    if not is_some(thing) or not isinstance(thing[0], str) or thing[0] not in FORMS:
        return False
    form = FORMS[thing[0]]
    return form(thing)
