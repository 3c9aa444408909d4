"""Checkers of works and of what is told of those that commits meet (promises 24 and 28), whoever wrote it."""

from stillfiles.commits import commits_behind, tells_from
from stillfiles.doings import came_and_went
from stillfiles.meeting import MARKING, key_can, key_entries, put_entries, touches
from stillfiles.planning import file_can
from stillfiles.tuples import is_of
from stillfiles.wholes import is_from, is_whole, is_within
from stillfiles.workforms import are_reads, has_files, is_more
from stillfiles.works import BASE, MORE, NUMBER, READS, TITLE, WORD
from stillfiles.worths import is_name

WORK_WORDS = ("put", "drop", "change", "key", "reshape", "rerule", "gather", "back", "tag", "untag", "let")


def is_work(thing):
    if not is_of(10, thing) or thing[WORD] not in WORK_WORDS:
        return False
    if not (is_name(thing[TITLE]) and is_from(1, thing[NUMBER]) and is_from(0, thing[BASE])):
        return False
    word = thing[WORD]
    return are_reads(word, thing[READS]) and has_files(thing) and is_more(word, thing[MORE])


def led_holds(place, head, work, thing):
    if not is_of(2, thing) or thing[0] != "led" or not tells_from(head, work[BASE]):
        return False
    behind = commits_behind(head, work[BASE])
    if not is_of(len(behind), thing[1]):
        return False
    for commit, row in zip(behind, thing[1]):
        if not is_untouched(place, head, work, commit, row):
            return False
    return True


def is_untouched(place, head, work, commit, row):
    """Whether a commit doesn't touch a work, as a row shows."""
    if not is_of(2, row) or not is_whole(row[0]) or row[0] != commit[0]:
        return False
    came, went = came_and_went(place, head, commit[0])
    if touches(head, work, commit, came, went):
        return False
    brought = [*put_entries(commit, came), *key_entries(came)] if work[WORD] in MARKING else []
    if not is_of(len(brought), row[1]):
        return False
    return all([show_holds(head, entry, work[READS], show) for entry, show in zip(brought, row[1])])


def show_holds(head, entry, tests, show):
    """Whether a show is (the entry's file, the number of a test that this file, or key, can't meet)."""
    if not is_of(2, show) or show[0] != entry[1] or not is_within(0, len(tests) - 1, show[1]):
        return False
    test = tests[show[1]]
    can = key_can(entry, test) if entry[0] == "key" else file_can(head, entry, test)
    return not can


def clash_holds(place, head, work, thing):
    if not is_of(4, thing) or thing[0] != "clash" or not tells_from(head, work[BASE]):
        return False
    _, number, word, file = thing
    for commit in commits_behind(head, work[BASE]):
        if is_whole(number) and commit[0] == number:
            came, went = came_and_went(place, head, number)
            return (word, file) in touches(head, work, commit, came, went)
    return False
