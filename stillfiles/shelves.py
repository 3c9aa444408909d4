"""Places of files: a Shelf, which is written to, and a Folder of files given by hand (promises 15 and 16)."""

from stillfiles.errors import Crash, Lost, NoFile, NoTable
from stillfiles.filenames import LETTER_OF, by_numbers, stands_in


def names_of(contents, by):
    """The names of files by their numbers, or by what a function tells of each."""
    names = by_numbers(list(contents))
    if by is None:
        return names
    return tuple(sorted(names, key=lambda name: by(name)))


class Shelf:
    """Files that never change, the names that point at heads, and moments."""

    def __init__(self):
        self._contents = {}
        self._written = {}
        self._many = 0
        self._heads = {}
        self._now = 0
        self._opened = []
        self._steps = 0
        # (the step that it meets, its word), where one waits.
        self._trouble = None

    def __len__(self):
        return len(self._contents)

    def write(self, kind, content):
        is_lost = self._step()
        self._many += 1
        name = LETTER_OF[kind] + str(self._many)
        self._contents[name] = content
        self._written[name] = self._now
        self._answer(is_lost)
        return name

    def read(self, name):
        self._check(name)
        self._opened.append(name)
        return self._contents[name]

    def has(self, name):
        return stands_in(self._contents, name)

    def written(self, name):
        self._check(name)
        return self._written[name]

    def erase(self, name):
        is_lost = self._step()
        if self.has(name):
            del self._contents[name]
            del self._written[name]
            self._answer(is_lost)
            return
        self._answer(is_lost)
        raise NoFile(name)

    def names(self, *, by=None):
        return names_of(self._contents, by)

    def swap(self, table, ahead, new):
        is_lost = self._step()
        is_due = self._heads.get(table) == ahead
        if is_due:
            self._heads[table] = new
        self._answer(is_lost)
        return is_due

    def pointed(self, table):
        if not stands_in(self._heads, table):
            raise NoTable(table)
        return self._heads[table]

    def tables(self):
        return tuple(sorted(self._heads))

    def moment(self):
        return self._now

    def wait(self, many):
        self._now += many

    def opened(self):
        return tuple(self._opened)

    def steps(self):
        return self._steps

    def trouble(self, step, word):
        self._trouble = (self._steps + step, word)

    def _check(self, name):
        if not self.has(name):
            raise NoFile(name)

    def _step(self):
        """Begins a step; tells whether its answer will be lost."""
        self._steps += 1
        if self._trouble is None or self._trouble[0] != self._steps:
            return False
        word = self._trouble[1]
        self._trouble = None
        if word == "crash":
            raise Crash(self._steps)
        if word == "void":
            raise Lost(self._steps)
        return True

    def _answer(self, is_lost):
        if is_lost:
            raise Lost(self._steps)


class Folder:
    """A place of files that are given by hand, whatever their contents."""

    def __init__(self, files=()):
        self._contents = {name: content for name, content in files}

    def __len__(self):
        return len(self._contents)

    def read(self, name):
        if not self.has(name):
            raise NoFile(name)
        return self._contents[name]

    def has(self, name):
        return stands_in(self._contents, name)

    def names(self, *, by=None):
        return names_of(self._contents, by)
