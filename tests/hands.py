"""Tables made by hand, file by file, for the tests of what is read of them."""

from stillfiles.contents import is_content
from stillfiles.listing import list_row
from stillfiles.shelves import Folder
from stillfiles.spans import span_of

LETTERS = {"data": "d", "marks": "m", "key": "k", "list": "l", "lists": "s", "head": "h"}


class Hand:
    """Shapes and rules by their numbers, files, and commits, each with its rows of lists."""

    def __init__(self, shapes, rules=((),)):
        self.shapes = shapes
        self.rules = rules
        self.files = {}
        self.lists = ()
        self.commits = []

    def file(self, content):
        assert is_content(content), content
        name = LETTERS[content[0]] + str(len(self.files) + 1)
        self.files[name] = content
        return name

    def data(self, order, rows, shape=0, rule=0, part=()):
        """Writes a data file; told is its entry."""
        file = self.file(("data", shape, rule, part, rows))
        spans = [span_of(column[0], [row[at] for row in rows]) for at, column in enumerate(self.shapes[shape])]
        return ("data", file, order, len(rows), shape, rule, part, tuple(spans))

    def marks(self, order, data, places):
        return ("marks", self.file(("marks", data, places)), order, data, len(places))

    def key(self, order, number, worth):
        return ("key", self.file(("key", number, worth)), order, number, worth)

    def list(self, *entries):
        """Writes a list; told is its row of lists."""
        return list_row(self.file(("list", entries)), entries)

    def commit(self, *lists, word="put", shape=0, rule=0, number=None, keep=None):
        """A commit of the rows of lists ahead (or those of keep) and these."""
        self.lists = (*(self.lists if keep is None else keep), *lists)
        number = len(self.commits) if number is None else number
        name = self.file(("lists", self.lists))
        self.commits.append((number, word, None, 0, 0, name, shape, rule))

    def head(self):
        following = 1 + max(column[0] for shape in self.shapes for column in shape)
        head = ("head", "fruit", self.shapes, self.rules, following, tuple(self.commits), (), ())
        assert is_content(head), head
        return head

    def folder(self):
        return Folder(tuple(self.files.items()))
