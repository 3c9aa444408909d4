"""Stores: tables on a Shelf, their Writers and Readers, and files that nothing names (promises 22, 31 and 32)."""

from stillfiles.commits import done_of, last_number, lists_of, number_then, tagged_number, told_commit
from stillfiles.errors import NoName, Taken
from stillfiles.filenames import by_numbers
from stillfiles.limits import AGE, LET
from stillfiles.parts import bound_rule
from stillfiles.readers import Reader
from stillfiles.shapes import numbered
from stillfiles.shelves import Shelf
from stillfiles.worths import is_name
from stillfiles.writers import Writer


def number_asked(head, at, tag, moment):
    """The number of the commit that a Reader is for, of the present one where none of the three is told."""
    if at is not None:
        return told_commit(head, at)[0]
    if tag is not None:
        return tagged_number(head, tag)
    if moment is not None:
        return number_then(head, moment)
    return last_number(head)


def files_told(place, commits):
    """The lists of lists of commits, their lists, and the files of their entries, each once."""
    found, listed = {}, {}
    for commit in commits:
        if commit[5] in found:
            continue
        found[commit[5]] = True
        for row in lists_of(place, commit):
            listed[row[0]] = True
    for file in listed:
        for entry in place.read(file)[1]:
            found[entry[1]] = True
    return [*found, *listed]


class Store:
    """Tables on a Shelf of its own."""

    def __init__(self, *, age=AGE, let=LET):
        self._shelf = Shelf()
        self._age = age
        self._let = let
        self._writers = {}
        self._readers = []

    def __len__(self):
        return len(self._shelf.tables())

    def shelf(self):
        return self._shelf

    def make(self, table, columns, *, rule=()):
        if not is_name(table):
            raise NoName(table)
        if table in self.tables():
            raise Taken(table)
        shape = numbered(columns)
        fields = bound_rule(shape, rule)
        lists = self._shelf.write("lists", ("lists", ()))
        commit = (0, "make", None, 0, self.moment(), lists, 0, 0)
        head = ("head", table, (shape,), (fields,), len(shape) + 1, (commit,), (), ())
        self._shelf.swap(table, None, self._shelf.write("head", head))

    def tables(self):
        return self._shelf.tables()

    def head(self, table):
        return self._shelf.read(self._shelf.pointed(table))

    def done(self, table, title):
        return done_of(self.head(table), title)

    def writer(self, title):
        if not is_name(title):
            raise NoName(title)
        if title in self._writers and self._writers[title].stage() not in ("closed", "dead"):
            raise Taken(title)
        writer = Writer(self._shelf, self._age, title)
        self._writers[title] = writer
        return writer

    def reader(self, table, *, at=None, tag=None, moment=None):
        head = self.head(table)
        reader = Reader(self._shelf, self._let, head, number_asked(head, at, tag, moment))
        self._readers = [*self._open_readers(), reader]
        return reader

    def named(self):
        heads = [self._shelf.pointed(table) for table in self.tables()]
        commits = []
        for file in heads:
            commits.extend(self._shelf.read(file)[5])
        commits.extend([reader.commit_row() for reader in self._open_readers()])
        return by_numbers([*heads, *files_told(self._shelf, commits)])

    def starts(self):
        """The files that are named by no other one's content: heads pointed at, lists of open Readers' commits."""
        heads = [self._shelf.pointed(table) for table in self.tables()]
        return [*heads, *[reader.commit_row()[5] for reader in self._open_readers()]]

    def left_over(self):
        named = {file: True for file in self.named()}
        return tuple([file for file in self._shelf.names() if file not in named])

    def sweep(self):
        now = self.moment()
        due = tuple([file for file in self.left_over() if now - self._shelf.written(file) >= self._age])
        for file in due:
            self._shelf.erase(file)
        return due

    def moment(self):
        return self._shelf.moment()

    def wait(self, many):
        self._shelf.wait(many)

    def _open_readers(self):
        return [reader for reader in self._readers if reader.is_open()]
