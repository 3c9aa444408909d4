"""Commits that meet a work: which of them touch it, and by what (promises 27 and 28)."""

from stillfiles.commits import commits_behind, data_entries, shape_of, tells_from
from stillfiles.conditions import meets
from stillfiles.doings import came_and_went
from stillfiles.errors import TooLate
from stillfiles.planning import file_bar
from stillfiles.works import BASE, KEYS, MARKS, MORE, READS, TAKES, WORD

# Words of works that read rows and lay marks, and that make a shape or a rule.
MARKING = ("drop", "change")
SHAPING = ("reshape", "rerule")
# By which word a commit of each of those two words touches a work of either.
SHAPED_BY = {"reshape": "shape", "rerule": "rule"}


def put_entries(commit, came):
    """The data entries that a commit put, not by gather."""
    return [] if commit[1] == "gather" else data_entries(came)


def key_entries(came):
    return [entry for entry in came if entry[0] == "key"]


def key_can(entry, test):
    """Whether a row that a key takes away can meet a test: just a test on the key's own column tells."""
    return test[0] != entry[3] or meets(test, entry[4])


def key_bar(entry, tests):
    """The number of the first test that a row with a key's worth can't meet, None where it can meet each."""
    for k, test in enumerate(tests):
        if not key_can(entry, test):
            return k
    return None


def columns_of(work):
    """The numbers of the columns that a work needs: drop, change and key need some."""
    if work[WORD] == "key":
        return [number for _, number, _ in work[KEYS]]
    if work[WORD] not in MARKING:
        return []
    numbers = [test[0] for test in work[READS]]
    return [*numbers, work[MORE]] if work[WORD] == "change" else numbers


def held_files(work):
    """The data files of which a work needs that they are as they were: those it marks, or takes."""
    return [data for _, data, _ in work[MARKS]] if work[WORD] in MARKING else list(work[TAKES])


def shape_touches(head, commit, numbers):
    now = [column[0] for column in shape_of(head, commit)]
    return [] if all([number in now for number in numbers]) else [("shape", None)]


def file_touches(files, came, went):
    """Which of these data files a commit took, and which its marks are for."""
    taken = [entry[1] for entry in went if entry[0] == "data"]
    marked = [entry[3] for entry in came if entry[0] == "marks"]
    found = [("took", file) for file in files if file in taken]
    return [*found, *[("marked", file) for file in files if file in marked]]


def read_touches(head, commit, tests, came):
    """The data files that a commit put, and the keys that it brought, of which rows may meet all tests."""
    puts = [entry for entry in put_entries(commit, came) if file_bar(head, entry, tests) is None]
    keys = [entry for entry in key_entries(came) if key_bar(entry, tests) is None]
    return [*[("put", entry[1]) for entry in puts], *[("key", entry[1]) for entry in keys]]


def touches(head, work, commit, came, went):
    """(word, file) of all by which a commit touches a work, in the order in which the first one is told."""
    word = work[WORD]
    if word in SHAPING:
        return [(SHAPED_BY[commit[1]], None)] if commit[1] in SHAPED_BY else []
    if word == "key":
        return shape_touches(head, commit, columns_of(work))
    back = [("back", None)] if commit[1] == "back" else []
    if word == "gather":
        return [*back, *file_touches(held_files(work), came, went)]
    if word not in MARKING:
        return []
    shape = shape_touches(head, commit, columns_of(work))
    files = file_touches(held_files(work), came, went)
    return [*back, *shape, *files, *read_touches(head, commit, work[READS], came)]


def shows_of(head, work, commit, came):
    """Why what a commit brought can't be what a work of drop or change reads: (file, the number of a test)."""
    if work[WORD] not in MARKING:
        return ()
    puts = [(entry[1], file_bar(head, entry, work[READS])) for entry in put_entries(commit, came)]
    return (*puts, *[(entry[1], key_bar(entry, work[READS])) for entry in key_entries(came)])


def met(place, head, work):
    base = work[BASE]
    if not tells_from(head, base):
        raise TooLate(base)
    rows = []
    for commit in commits_behind(head, base):
        came, went = came_and_went(place, head, commit[0])
        found = touches(head, work, commit, came, went)
        if found:
            return ("clash", commit[0], *found[0])
        rows.append((commit[0], shows_of(head, work, commit, came)))
    return ("led", tuple(rows))
