"""Checkers of the papers and chains of promises 35 and 37, whoever wrote them."""

from stillfiles.commits import data_entries, entries_at, lists_of, shape_of, tells, told_commit
from stillfiles.conditions import bound
from stillfiles.errors import NoColumn, NoCond
from stillfiles.links import links_in
from stillfiles.planning import file_can
from stillfiles.standing import is_met, read_rows
from stillfiles.tuples import is_of, is_some
from stillfiles.wholes import is_whole, is_within
from stillfiles.worths import are_worths


def row_holds(place, head, number, row, thing):
    if not tells(head, number) or not are_worths(row) or not is_of(3, thing) or not is_whole(thing[2]):
        return False
    commit = told_commit(head, number)
    named, file, at = thing
    if named not in [listed[0] for listed in lists_of(place, commit)]:
        return False
    entries = entries_at(place, commit)
    for entry in data_entries(place.read(named)[1]):
        if entry[1] == file:
            return (at, row) in read_rows(place, head, commit, entry, entries)
    return False


def none_holds(place, head, number, where, thing):
    if not tells(head, number):
        return False
    commit = told_commit(head, number)
    try:
        tests = bound(shape_of(head, commit), where)
    except (NoCond, NoColumn):
        return False
    entries = entries_at(place, commit)
    datas = data_entries(entries)
    if not is_of(len(datas), thing):
        return False
    for entry, pair in zip(datas, thing):
        if not is_of(2, pair) or pair[0] != entry[1]:
            return False
        if pair[1] is None and is_met(place, head, commit, entry, entries, tests):
            return False
        if pair[1] is not None and not is_bar(head, entry, tests, pair[1]):
            return False
    return True


def is_bar(head, entry, tests, thing):
    """Whether a thing is the number of a test that a data entry's file can't meet."""
    return is_within(0, len(tests) - 1, thing) and not file_can(head, entry, tests[thing])


def chain_holds(store, name, thing):
    if not is_some(thing) or thing[0] not in store.starts() or thing[-1] != name:
        return False
    for file, other in zip(thing, thing[1:]):
        if other not in links_in(store.shelf(), file):
            return False
    return True
