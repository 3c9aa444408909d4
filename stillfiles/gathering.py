"""Which data files of a commit are worth gathering (promise 29)."""

from stillfiles.commits import data_entries, entries_at, told_commit
from stillfiles.limits import SIZE


def small_ones(place, head, number, *, below=SIZE):
    groups = {}
    for entry in data_entries(entries_at(place, told_commit(head, number))):
        if entry[3] < below:
            groups.setdefault((entry[5], entry[6]), []).append(entry[1])
    return tuple([tuple(files) for files in groups.values() if len(files) > 1])
