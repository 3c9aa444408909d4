"""Plans: which files are to be opened for a condition, by lists alone (promise 19)."""

from stillfiles.commits import fill_of, lists_of, shape_of, told_commit
from stillfiles.conditions import bound, meets
from stillfiles.parts import part_may
from stillfiles.spans import may_meet


def file_can(head, entry, test):
    """Whether the file of a data entry can meet a test."""
    for span in entry[7]:
        if span[0] == test[0]:
            return may_meet(span, test) and part_may(head[3][entry[5]], entry[6], test)
    return meets(test, fill_of(head, test[0]))


def list_can(head, row, test):
    """Whether a list of data entries alone, by its row of lists, can meet a test."""
    for span in row[3]:
        if span[0] == test[0]:
            return may_meet(span, test) or (span[4] > 0 and meets(test, fill_of(head, test[0])))
    return meets(test, fill_of(head, test[0]))


def file_bar(head, entry, tests):
    """The number of the first test that the file of a data entry can't meet, None where it can meet each."""
    for k, test in enumerate(tests):
        if not file_can(head, entry, test):
            return k
    return None


def list_bar(head, row, tests):
    """The same of a list: one that has others, or no data entries, is never left out."""
    if row[1] == 0 or row[2] > 0:
        return None
    for k, test in enumerate(tests):
        if not list_can(head, row, test):
            return k
    return None


def planned(place, head, commit, tests):
    """The entries of all lists that aren't left out, those of the planned data files, and what is left out."""
    entries, datas, left = [], [], []
    for row in lists_of(place, commit):
        bar = list_bar(head, row, tests)
        if bar is not None:
            left.append((row[0], bar))
            continue
        for entry in place.read(row[0])[1]:
            entries.append(entry)
            if entry[0] != "data":
                continue
            bar = file_bar(head, entry, tests)
            if bar is None:
                datas.append(entry)
            else:
                left.append((entry[1], bar))
    return entries, datas, left


def plan_of(place, head, number, where):
    commit = told_commit(head, number)
    tests = bound(shape_of(head, commit), where)
    _, datas, left = planned(place, head, commit, tests)
    return tuple([entry[1] for entry in datas]), tuple(left)
