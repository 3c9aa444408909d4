"""Words of the texts of contents (promise 14): numbers, worths, spans, counted groups."""

from stillfiles.wholes import is_figures

# What a word becomes that writes nothing: a truth is no part of any content, so no form takes it.
UNREAD = False


def number_read(word):
    return int(word) if is_figures(word) else UNREAD


def worth_word(worth):
    if worth is None:
        return "-"
    if isinstance(worth, str):
        return "." + worth
    return str(worth)


def worth_read(word):
    if word == "-":
        return None
    if word[:1] == ".":
        return word[1:]
    if not is_figures(word.removeprefix("-")) or word == "-0":
        return UNREAD
    return int(word)


def worth_words(worths):
    return [worth_word(worth) for worth in worths]


def worths_read(words):
    return tuple([worth_read(word) for word in words])


def span_words(span):
    """Of a span, or of a whole one."""
    return [str(span[0]), worth_word(span[1]), worth_word(span[2]), *[str(many) for many in span[3:]]]


def span_read(words):
    many = [number_read(word) for word in words[3:]]
    return (number_read(words[0]), worth_read(words[1]), worth_read(words[2]), *many)


def groups_of(words, width):
    """The words by so many, None where that doesn't come out even."""
    if len(words) % width != 0:
        return None
    return [words[start:start + width] for start in range(0, len(words), width)]


def counted(words, width):
    """The groups that a count ahead of them tells of and the words behind; (None, []) where there are fewer."""
    if not words or not is_figures(words[0]):
        return None, []
    many = int(words[0])
    if len(words) - 1 < many * width:
        return None, []
    end = 1 + many * width
    return groups_of(words[1:end], width), words[end:]
