"""What a commit did: what came with it and what went (promise 20)."""

from stillfiles.commits import entries_at, told_commit


def entries_without(entries, others):
    """Those of the entries whose file none of the others tells."""
    files = {other[1]: True for other in others}
    return [entry for entry in entries if entry[1] not in files]


def came_and_went(place, head, number):
    """The entries that came with a commit, and those of the one less that went."""
    commit = told_commit(head, number)
    elder = told_commit(head, number - 1)
    now, then = entries_at(place, commit), entries_at(place, elder)
    return entries_without(now, then), entries_without(then, now)


def files_of(word, entries):
    return tuple([entry[1] for entry in entries if entry[0] == word])


def did(place, head, number):
    came, went = came_and_went(place, head, number)
    marks = tuple([(entry[1], entry[3]) for entry in came if entry[0] == "marks"])
    return files_of("data", came), files_of("data", went), marks, files_of("key", came)
