"""Findings: files given by hand, and what is told of them (promise 41)."""

from stillfiles.claims import is_claim
from stillfiles.commits import shape_of, tells_from, told_commit
from stillfiles.contents import is_file
from stillfiles.errors import NoShape
from stillfiles.faults import faults_of
from stillfiles.historychecks import history_holds
from stillfiles.meetchecks import clash_holds, is_work, led_holds
from stillfiles.meeting import columns_of
from stillfiles.paperchecks import none_holds, row_holds
from stillfiles.shapes import numbered
from stillfiles.shelves import Folder
from stillfiles.tuples import is_of, is_some
from stillfiles.wholes import all_unlike
from stillfiles.works import BASE

# How long a finding of each word is.
LENGTHS = {"row": 6, "none": 6, "led": 5, "clash": 5, "can": 4}


def finding_holds(thing):
    if not is_some(thing) or not isinstance(thing[0], str) or LENGTHS.get(thing[0]) != len(thing):
        return False
    word = thing[0]
    if word == "can":
        return can_holds(thing[1], thing[2], thing[3])
    if not is_head_right(thing[1], thing[2]):
        return False
    place = Folder(thing[1])
    head = place.read(thing[2])
    if word == "row":
        return row_holds(place, head, thing[3], thing[4], thing[5])
    if word == "none":
        return none_holds(place, head, thing[3], thing[4], thing[5])
    if not is_work_on(head, thing[3]):
        return False
    if word == "led":
        return led_holds(place, head, thing[3], thing[4])
    return clash_holds(place, head, thing[3], thing[4])


def are_files(thing):
    """Whether a thing is files for a Folder: names, unlike, with contents of anything."""
    if not isinstance(thing, tuple) or not all([is_of(2, pair) and is_file(pair[0]) for pair in thing]):
        return False
    return all_unlike([pair[0] for pair in thing])


def is_head_right(files, file):
    return are_files(files) and faults_of(Folder(files), file) == ()


def is_work_on(head, thing):
    """Whether a thing is a work by form whose base, and the columns that it needs there, a head tells."""
    if not is_work(thing) or not tells_from(head, thing[BASE]):
        return False
    columns = [column[0] for column in shape_of(head, told_commit(head, thing[BASE]))]
    return all([number in columns for number in columns_of(thing)])


def can_holds(columns, claims, paper):
    if not are_columns(columns) or not isinstance(claims, tuple):
        return False
    return all([is_claim(claim) for claim in claims]) and history_holds(columns, claims, paper)


def are_columns(thing):
    try:
        numbered(thing)
    except NoShape:
        return False
    return True
