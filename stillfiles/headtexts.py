"""The lines of a head's text (promise 14)."""

from stillfiles.words import UNREAD, groups_of, number_read, worth_read, worth_word


def column_words(column):
    return [str(column[0]), column[1], column[2], worth_word(column[3])]


def column_read(words):
    return (number_read(words[0]), words[1], words[2], worth_read(words[3]))


def field_words(field):
    number, way = field
    return [str(number), way[0], "0" if len(way) == 1 else str(way[1])]


def field_read(words):
    way = ("same",) if words[1:] == ["same", "0"] else (words[1], number_read(words[2]))
    return (number_read(words[0]), way)


def commit_words(row):
    number, word, title, work, moment, lists, shape, rule = row
    called = "-" if title is None else title
    return [str(number), word, called, str(work), str(moment), lists, str(shape), str(rule)]


def commit_read(words):
    number, word, called, work, moment, lists, shape, rule = words
    title = None if called == "-" else called
    times = (number_read(work), number_read(moment))
    return (number_read(number), word, title, *times, lists, number_read(shape), number_read(rule))


def joined(word, groups):
    """A line: its first word, and the words of all groups."""
    line = [word]
    for words in groups:
        line.extend(words)
    return line


def piece_read(line):
    """The piece of a head that a line writes, or what is none."""
    word, words = line[0], line[1:]
    if word == "shape":
        groups = groups_of(words, 4)
        return UNREAD if groups is None else tuple([column_read(group) for group in groups])
    if word == "rule":
        groups = groups_of(words, 3)
        return UNREAD if groups is None else tuple([field_read(group) for group in groups])
    if word == "commit":
        return commit_read(words) if len(words) == 8 else UNREAD
    # The rows of tags and of what is done are a name and numbers.
    return (*words[:1], *[number_read(figures) for figures in words[1:]])
