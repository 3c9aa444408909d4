"""Papers of rows that stand, of conditions that no row meets, and chains of named files (promises 35 and 37)."""

from stillfiles.commits import data_entries, entries_at, lists_of, shape_of, told_commit
from stillfiles.conditions import bound
from stillfiles.filenames import stands_in
from stillfiles.links import links_in
from stillfiles.planning import file_bar
from stillfiles.standing import is_met, read_rows
from stillfiles.worths import are_worths


def row_paper(place, head, number, row):
    commit = told_commit(head, number)
    # Python takes truths for numbers, so what is no row of worths isn't looked for.
    if not are_worths(row):
        return None
    entries = entries_at(place, commit)
    for listed in lists_of(place, commit):
        for entry in data_entries(place.read(listed[0])[1]):
            for at, own in read_rows(place, head, commit, entry, entries):
                if own == row:
                    return (listed[0], entry[1], at)
    return None


def none_paper(place, head, number, where):
    commit = told_commit(head, number)
    tests = bound(shape_of(head, commit), where)
    entries = entries_at(place, commit)
    paper = []
    for entry in data_entries(entries):
        bar = file_bar(head, entry, tests)
        if bar is None and is_met(place, head, commit, entry, entries, tests):
            return None
        paper.append((entry[1], bar))
    return tuple(paper)


def chain_of(store, name):
    chains = {file: (file,) for file in store.starts()}
    due = list(chains)
    while due:
        file = due.pop()
        for other in links_in(store.shelf(), file):
            if other not in chains:
                chains[other] = (*chains[file], other)
                due.append(other)
    return chains[name] if stands_in(chains, name) else None
