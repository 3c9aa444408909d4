"""Readers, who stay at a commit (promise 31)."""

from stillfiles.commits import shape_of, told_commit
from stillfiles.errors import NotNow, Over
from stillfiles.planning import plan_of
from stillfiles.reading import rows_of


class Reader:
    """Reads one commit of a table by the head as it was when he came, for so long as he is open."""

    def __init__(self, shelf, let, head, number):
        self._shelf = shelf
        self._let = let
        self._head = head
        self._number = number
        self._until = shelf.moment() + let
        self._is_closed = False

    def table(self):
        return self._head[1]

    def commit_number(self):
        return self._number

    def ends(self):
        return self._until

    def shape(self):
        self._check_open()
        return shape_of(self._head, self.commit_row())

    def rows(self, *, where=(), names=None, by=None):
        self._check_open()
        return rows_of(self._shelf, self._head, self._number, where=where, names=names, by=by)

    def plan(self, where):
        self._check_open()
        return plan_of(self._shelf, self._head, self._number, where)

    def renew(self):
        self._check_open()
        self._until = self._shelf.moment() + self._let

    def close(self):
        self._is_closed = True

    def commit_row(self):
        return told_commit(self._head, self._number)

    def is_open(self):
        return not self._is_closed and self._shelf.moment() < self._until

    def _check_open(self):
        if self._is_closed:
            raise NotNow("closed")
        if not self.is_open():
            raise Over(self._until)
