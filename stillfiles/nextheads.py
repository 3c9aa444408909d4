"""The head that a work makes of the present one, and the lists for it (promises 25 and 30)."""

from stillfiles.checks import check_tag
from stillfiles.commits import last_number, lists_of, tagged_number, told_commit
from stillfiles.listing import list_row
from stillfiles.shapes import reshaped
from stillfiles.works import BASE, MORE, NUMBER, TAKES, TITLE, WORD, entries_brought


def check_again(head, work):
    """Refuses a work that the present head has no commit or tag for any more, or has its tag already."""
    word, more = work[WORD], work[MORE]
    if word == "back":
        told_commit(head, more)
    elif word == "tag":
        check_tag(head, more[0], more[1])
    elif word == "untag":
        tagged_number(head, more)


def next_head(shelf, head, work):
    """Writes the lists that a work needs; told is the head, which isn't written yet."""
    _, table, shapes, rules, next_number, commits, tags, done = head
    word, more = work[WORD], work[MORE]
    if word == "tag":
        tags = tuple(sorted([*tags, more]))
    elif word == "untag":
        tags = tuple([row for row in tags if row[0] != more])
    elif word == "let":
        commits = kept_commits(commits, tags, more, shelf.moment())
    else:
        shape, rule = commits[-1][6:]
        if word == "reshape":
            newer, next_number = reshaped(shapes[shape], next_number, more)
            shapes, shape = (*shapes, newer), len(shapes)
        elif word == "rerule":
            rules, rule = (*rules, more), len(rules)
        commits = (*commits, next_commit(shelf, head, work, shape, rule))
    done = with_done(done, work, commits[-1][0])
    return ("head", table, shapes, rules, next_number, commits, tags, done)


def kept_commits(commits, tags, bounds, now):
    keep, age = bounds
    tagged = [number for _, number in tags]
    old = [row for row in commits[:-keep] if now - row[4] >= age and row[0] not in tagged]
    return tuple([row for row in commits if row not in old])


def with_done(done, work, number):
    others = [row for row in done if row[0] != work[TITLE]]
    return tuple(sorted([*others, (work[TITLE], work[NUMBER], number)]))


def next_commit(shelf, head, work, shape, rule):
    number = last_number(head) + 1
    if work[WORD] == "back":
        lists = told_commit(head, work[MORE])[5]
    else:
        lists = next_lists(shelf, head, work, number)
    return (number, work[WORD], work[TITLE], work[NUMBER], shelf.moment(), lists, shape, rule)


def next_lists(shelf, head, work, number):
    """The lists of lists of a new commit; the present one where no list comes or goes."""
    present = head[5][-1]
    rows = lists_of(shelf, present)
    order = work[BASE] if work[WORD] == "gather" else number
    entries = entries_brought(work, order)
    newer = lists_without(shelf, rows, work[TAKES]) if work[TAKES] else rows
    if entries:
        newer = (*newer, written_list(shelf, entries))
    if newer == rows:
        return present[5]
    return shelf.write("lists", ("lists", newer))


def lists_without(shelf, rows, takes):
    """The rows of lists, those lists that tell of taken files, or of marks for them, written anew without these."""
    newer = []
    for row in rows:
        entries = shelf.read(row[0])[1]
        left = tuple([entry for entry in entries if data_file(entry) not in takes])
        if left == entries:
            newer.append(row)
        elif left:
            newer.append(written_list(shelf, left))
    return tuple(newer)


def data_file(entry):
    """The data file that an entry is of or for, None of a key."""
    if entry[0] == "data":
        return entry[1]
    return entry[3] if entry[0] == "marks" else None


def written_list(shelf, entries):
    """Writes a list; told is its row of lists."""
    return list_row(shelf.write("list", ("list", entries)), entries)
