"""The rows that a Desk is told, read word by word (promise 40)."""

from stillfiles.conditions import WORDS
from stillfiles.errors import NoLine
from stillfiles.wholes import is_from
from stillfiles.words import number_read, worth_read
from stillfiles.worths import is_kind, is_worth

# Of each row's first word what stands behind it, ahead of groups: any word, a number, one from 1 (some), a worth, or
# the word of a trouble.
TOPS = {
    "make": ("word",), "writer": ("word",), "begin": ("word", "word"), "put": ("word",), "drop": ("word",),
    "change": ("word", "word", "worth"), "key": ("word", "word", "worth"), "shape": ("word",), "rule": ("word",),
    "gather": ("word",), "back": ("word", "number"), "tag": ("word", "word", "number"), "untag": ("word", "word"),
    "let": ("word", "some", "number"), "leave": ("word",), "close": ("word",), "wait": ("number",),
    "trouble": ("some", "trouble"), "ready": ("word",), "swap": ("word",), "commit": ("word",), "found": ("word",),
    "sweep": (), "over": (), "stage": ("word",), "rows": ("word",), "at": ("word", "number"),
}
TROUBLES = ("crash", "void", "lost")
WAYS = ("same", "range", "rest", "first")


def check(is_so):
    if not is_so:
        raise NoLine()


def check_many(many, words):
    check(len(words) == many)


def number_told(least, word):
    number = number_read(word)
    check(is_from(least, number))
    return number


def worth_told(word):
    worth = worth_read(word)
    check(is_worth(worth))
    return worth


def one_told(others, word):
    check(word in others)
    return word


def kind_told(word):
    check(is_kind(word))
    return word


def top_told(kind, word):
    if kind == "number":
        return number_told(0, word)
    if kind == "some":
        return number_told(1, word)
    if kind == "worth":
        return worth_told(word)
    return one_told(TROUBLES, word) if kind == "trouble" else word


def column_told(words):
    check_many(3, words)
    return (words[0], kind_told(words[1]), worth_told(words[2]))


def row_told(words):
    return tuple([worth_told(word) for word in words])


def test_told(words):
    check_many(3, words)
    return (words[0], one_told(WORDS, words[1]), worth_told(words[2]))


def change_told(words):
    word = words[0]
    if word == "add":
        return (word, *column_told(words[1:]))
    if word == "out":
        check_many(2, words)
        return (word, words[1])
    check_many(3, words)
    if word == "name":
        return (word, words[1], words[2])
    check(word == "widen")
    return (word, words[1], kind_told(words[2]))


def field_told(words):
    check_many(3, words)
    name, word, k = words[0], one_told(WAYS, words[1]), number_told(0, words[2])
    if word == "same":
        check(k == 0)
        return (name, (word,))
    check(k > 0)
    return (name, (word, k))


# What a group tells, of each row that has groups.
GROUPS = {
    "make": column_told, "put": row_told, "drop": test_told, "change": test_told, "shape": change_told,
    "rule": field_told, "rows": test_told,
}


def words_of(row):
    check(isinstance(row, str))
    words = row.split(" ")
    check("" not in words)
    return words


def parted(words):
    """The words ahead of the first `:`, and those behind each."""
    parts = [[]]
    for word in words:
        if word == ":":
            parts.append([])
        else:
            parts[-1].append(word)
    return parts[0], parts[1:]


def groups_told(word, groups):
    """What all groups of a row tell, as one thing more; nothing of a row that has no groups."""
    if word not in GROUPS:
        check(groups == [])
        return ()
    check([] not in groups)
    reader = GROUPS[word]
    return (tuple([reader(group) for group in groups]),)


def line_read(row):
    """A row's first word, and in a tuple what stands behind it; files and groups are one thing each, the last one."""
    top, groups = parted(words_of(row))
    check(top != [] and top[0] in TOPS)
    word, behind, files = top[0], top[1:], ()
    if word == "gather":
        behind, files = top[1:2], (tuple(top[2:]),)
    kinds = TOPS[word]
    check_many(len(kinds), behind)
    told = [top_told(kind, behind_word) for kind, behind_word in zip(kinds, behind)]
    return word, (*told, *files, *groups_told(word, groups))
