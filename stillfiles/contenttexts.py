"""Contents written as texts, and read back (promise 14).

A text is handled as lines, lists of words. Each reader is handed lines of which the first one begins with its own
word, and refuses with NoText the first line with which, behind those ahead, no such content begins.
"""

from stillfiles.contents import is_content, is_data_row, is_data_top
from stillfiles.entries import is_entry, is_list_row
from stillfiles.errors import NoText
from stillfiles.heads import HeadForm, is_head_top
from stillfiles.headtexts import column_words, commit_words, field_words, joined, piece_read
from stillfiles.words import UNREAD, counted, number_read, span_read, span_words
from stillfiles.words import worth_read, worth_word, worth_words, worths_read


def pieces_read(lines, reader, form):
    """What the lines behind the first one write, each of this form."""
    pieces = []
    for row, line in enumerate(lines[1:], start=1):
        piece = reader(line)
        if not form(piece):
            raise NoText(row)
        pieces.append(piece)
    return tuple(pieces)


def one_or_more(pieces):
    # Only where all lines were read is one lacking, so where there is none it is the line 1.
    if not pieces:
        raise NoText(1)
    return pieces


def alone(content, lines):
    """A content that one line writes, where it is one and no line stands behind it."""
    if not is_content(content):
        raise NoText(0)
    if len(lines) > 1:
        raise NoText(1)
    return content


def data_lines(content):
    _, shape, rule, part, rows = content
    top = ["data", str(shape), str(rule), *worth_words(part)]
    return [top, *[["row", *worth_words(row)] for row in rows]]


def data_row_read(line):
    return worths_read(line[1:]) if line[0] == "row" else UNREAD


def data_read(lines):
    top = lines[0]
    if len(top) < 3:
        raise NoText(0)
    shape, rule, part = number_read(top[1]), number_read(top[2]), worths_read(top[3:])
    if not is_data_top(shape, rule, part):
        raise NoText(0)
    width = len(lines[1]) - 1 if len(lines) > 1 else 0
    rows = pieces_read(lines, data_row_read, lambda row: is_data_row(row) and len(row) == width)
    return ("data", shape, rule, part, one_or_more(rows))


def marks_lines(content):
    return [["marks", content[1], *[str(place) for place in content[2]]]]


def marks_read(lines):
    words = lines[0]
    places = tuple([number_read(word) for word in words[2:]])
    return alone(("marks", *words[1:2], places), lines)


def key_lines(content):
    return [["key", str(content[1]), worth_word(content[2])]]


def key_read(lines):
    words = lines[0]
    return alone(("key", *[number_read(word) for word in words[1:2]], *worths_read(words[2:])), lines)


def entry_words(entry):
    if entry[0] == "marks":
        _, file, order, data, many = entry
        return ["marks", file, str(order), data, str(many)]
    if entry[0] == "key":
        _, file, order, number, worth = entry
        return ["key", file, str(order), str(number), worth_word(worth)]
    _, file, order, many, shape, rule, part, spans = entry
    line = ["data", file, str(order), str(many), str(shape), str(rule)]
    line.extend([str(len(part)), *worth_words(part), str(len(spans))])
    for span in spans:
        line.extend(span_words(span))
    return line


def entry_read(line):
    word, many = line[0], len(line)
    if word == "marks" and many == 5:
        return ("marks", line[1], number_read(line[2]), line[3], number_read(line[4]))
    if word == "key" and many == 5:
        return ("key", line[1], number_read(line[2]), number_read(line[3]), worth_read(line[4]))
    if word == "data":
        return data_entry_read(line)
    return UNREAD


def data_entry_read(line):
    numbers = [number_read(word) for word in line[2:6]]
    part, behind = counted(line[6:], 1)
    spans, over = counted(behind, 4)
    if spans is None or over:
        return UNREAD
    worths = tuple([worth_read(group[0]) for group in part])
    return ("data", line[1], *numbers, worths, tuple([span_read(group) for group in spans]))


def list_lines(content):
    return [["list"], *[entry_words(entry) for entry in content[1]]]


def list_read(lines):
    if len(lines[0]) > 1:
        raise NoText(0)
    return ("list", one_or_more(pieces_read(lines, entry_read, is_entry)))


def list_row_words(row):
    file, datas, others, whole = row
    line = [file, str(datas), str(others), str(len(whole))]
    for span in whole:
        line.extend(span_words(span))
    return line


def list_row_read(line):
    spans, over = counted(line[3:], 5)
    if spans is None or over:
        return UNREAD
    return (line[0], number_read(line[1]), number_read(line[2]), tuple([span_read(group) for group in spans]))


def lists_lines(content):
    return [["lists"], *[list_row_words(row) for row in content[1]]]


def lists_read(lines):
    if len(lines[0]) > 1:
        raise NoText(0)
    return ("lists", pieces_read(lines, list_row_read, is_list_row))


def head_lines(content):
    _, table, shapes, rules, next_number, commits, tags, done = content
    lines = [["head", table, str(next_number)]]
    lines.extend([joined("shape", [column_words(column) for column in shape]) for shape in shapes])
    lines.extend([joined("rule", [field_words(field) for field in rule]) for rule in rules])
    lines.extend([["commit", *commit_words(row)] for row in commits])
    lines.extend([["tag", tag, str(number)] for tag, number in tags])
    lines.extend([["done", title, str(work), str(number)] for title, work, number in done])
    return lines


def head_read(lines):
    top = lines[0]
    if len(top) != 3 or not is_head_top(top[1], number_read(top[2])):
        raise NoText(0)
    next_number = number_read(top[2])
    form = HeadForm(next_number)
    taken = {"shape": [], "rule": [], "commit": [], "tag": [], "done": []}
    for row, line in enumerate(lines[1:], start=1):
        piece = piece_read(line)
        if not form.takes(line[0], piece):
            raise NoText(row)
        taken[line[0]].append(piece)
    if not form.may_end():
        raise NoText(len(lines))
    shapes, rules = tuple(taken["shape"]), tuple(taken["rule"])
    rows = (tuple(taken["commit"]), tuple(taken["tag"]), tuple(taken["done"]))
    return ("head", top[1], shapes, rules, next_number, *rows)


SHOWN = {
    "data": data_lines,
    "marks": marks_lines,
    "key": key_lines,
    "list": list_lines,
    "lists": lists_lines,
    "head": head_lines,
}
READ = {
    "data": data_read,
    "marks": marks_read,
    "key": key_read,
    "list": list_read,
    "lists": lists_read,
    "head": head_read,
}


def show_content(content):
    lines_of = SHOWN[content[0]]
    return "\n".join([" ".join(line) for line in lines_of(content)])


def read_content(text):
    if not isinstance(text, str):
        raise NoText(0)
    lines = [line.split(" ") for line in text.split("\n")]
    if lines[0][0] not in READ:
        raise NoText(0)
    reader = READ[lines[0][0]]
    return reader(lines)
