"""What a head tells of its commits, and the entries of one (promises 13 and 17)."""

from stillfiles.errors import NoCommit, NoTag
from stillfiles.wholes import is_whole


def tells(head, number):
    """Whether a head tells a commit of this number, of anything."""
    return is_whole(number) and number in [commit[0] for commit in head[5]]


def told_commit(head, number):
    if is_whole(number):
        for commit in head[5]:
            if commit[0] == number:
                return commit
    raise NoCommit(number)


def last_number(head):
    return head[5][-1][0]


def number_then(head, moment):
    """The number of the last commit told whose moment is no greater."""
    told = [commit[0] for commit in head[5] if commit[4] <= moment]
    if not told:
        raise NoCommit(moment)
    return told[-1]


def tells_from(head, base):
    """Whether a head tells each number from base to its last one."""
    # Counted, not gone through: by hand the last number may be a very great one.
    return tells(head, base) and len(commits_behind(head, base)) == last_number(head) - base


def commits_behind(head, base):
    return [commit for commit in head[5] if commit[0] > base]


def shape_of(head, commit):
    return head[2][commit[6]]


def rule_of(head, commit):
    return head[3][commit[7]]


def fill_of(head, number):
    """The fill that a number has in the shapes of a head: all columns of one number have one."""
    for shape in head[2]:
        for column in shape:
            if column[0] == number:
                return column[3]
    return None


def tagged_number(head, tag):
    """The number of the commit that a tag, of anything, is for."""
    for called, number in head[6]:
        if called == tag:
            return number
    raise NoTag(tag)


def done_of(head, title):
    """(work, number) of a title's row of done, None where there is none."""
    for called, work, number in head[7]:
        if called == title:
            return work, number
    return None


def lists_of(place, commit):
    """The rows of a commit's lists of lists."""
    return place.read(commit[5])[1]


def entries_at(place, commit):
    entries = []
    for row in lists_of(place, commit):
        entries.extend(place.read(row[0])[1])
    return tuple(entries)


def data_entries(entries):
    return [entry for entry in entries if entry[0] == "data"]
