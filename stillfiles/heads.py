"""The form of a head (promise 13), piece by piece: what it asks of one hangs just on those ahead of it."""

from stillfiles.filenames import names_file
from stillfiles.parts import is_bound_rule
from stillfiles.shapes import is_shape
from stillfiles.wholes import is_from, is_within
from stillfiles.worths import is_name, is_wider

COMMIT_WORDS = ("make", "put", "drop", "change", "key", "reshape", "rerule", "gather", "back")
# What a piece of each word may stand right behind.
AHEAD = {
    "shape": ("head", "shape"),
    "rule": ("shape", "rule"),
    "commit": ("rule", "commit"),
    "tag": ("commit", "tag"),
    "done": ("commit", "tag", "done"),
}
ENDS = ("commit", "tag", "done")


def is_head_top(table, next_number):
    return is_name(table) and is_from(2, next_number)


def goes_on(elder, column):
    """Whether a column may follow one of the same number in the shape ahead."""
    if column[3] != elder[3]:
        return False
    return column[2] == elder[2] or is_wider(column[2], elder[2])


class HeadForm:
    """Takes the pieces of a head in their order, and tells of each whether it may stand there."""

    def __init__(self, next_number):
        self.next_number = next_number
        self.ahead = "head"
        self.columns = {}
        self.gone = {}
        self.shape_count = 0
        self.rule_count = 0
        self.numbers = {}
        self.least_number = 0
        self.last_moment = 0
        self.last_tag = ""
        self.last_title = ""

    def takes(self, word, piece):
        if self.ahead not in AHEAD.get(word, ()):
            return False
        self.ahead = word
        if word == "shape":
            return self.takes_shape(piece)
        if word == "rule":
            return self.takes_rule(piece)
        if word == "commit":
            return self.takes_commit(piece)
        if word == "tag":
            return self.takes_tag(piece)
        return self.takes_done(piece)

    def may_end(self):
        return self.ahead in ENDS

    def takes_shape(self, shape):
        if not is_shape(shape):
            return False
        columns = {column[0]: column for column in shape}
        for number, column in columns.items():
            if number >= self.next_number or number in self.gone:
                return False
            if number in self.columns and not goes_on(self.columns[number], column):
                return False
        for number in self.columns:
            if number not in columns:
                self.gone[number] = True
        self.columns = columns
        self.shape_count += 1
        return True

    def takes_rule(self, rule):
        self.rule_count += 1
        return is_bound_rule(rule)

    def takes_commit(self, row):
        if not isinstance(row, tuple) or len(row) != 8:
            return False
        number, word, title, work, moment, lists, shape, rule = row
        if not (is_from(self.least_number, number) and word in COMMIT_WORDS and (title is None or is_name(title))):
            return False
        if not (is_from(0, work) and is_from(self.last_moment, moment) and names_file("s", lists)):
            return False
        self.numbers[number] = True
        self.least_number = number + 1
        self.last_moment = moment
        return is_within(0, self.shape_count - 1, shape) and is_within(0, self.rule_count - 1, rule)

    def takes_tag(self, row):
        if not isinstance(row, tuple) or len(row) != 2:
            return False
        tag, number = row
        if not (is_name(tag) and tag > self.last_tag and is_from(0, number)):
            return False
        self.last_tag = tag
        return number in self.numbers

    def takes_done(self, row):
        if not isinstance(row, tuple) or len(row) != 3:
            return False
        title, work, number = row
        if not (is_name(title) and title > self.last_title):
            return False
        self.last_title = title
        return is_from(0, work) and is_from(0, number)
