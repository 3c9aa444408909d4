"""Writers: their stages, their deeds, and how their works come to a table (promises 23 to 30)."""

from stillfiles.bases import Base
from stillfiles.commits import done_of, last_number, tells_from
from stillfiles.deeds import back_work, change_work, drop_work, gather_work, key_work, let_work
from stillfiles.deeds import put_work, rerule_work, reshape_work, tag_work, untag_work
from stillfiles.errors import Busy, Clash, Crash, Lost, NotNow, Tired, TooLate
from stillfiles.limits import AGE, KEEP, SIZE, TRIES
from stillfiles.meeting import met
from stillfiles.nextheads import check_again, next_head


class Writer:
    """One who does one deed after another, each of them on a table as it was when he began."""

    def __init__(self, shelf, age, title):
        self._shelf = shelf
        self._age = age
        self._title = title
        self._stage = "idle"
        self._is_busy = False
        self._table = None
        self._base = None
        self._work = None
        # Of a ready one: the head's file that ready read, the one that it wrote, and the last commit that this tells.
        self._ahead = None
        self._made = None
        self._last = None

    def titled(self):
        return self._title

    def stage(self):
        return self._stage

    def work(self):
        return self._work if self._stage in ("held", "ready", "unsure") else None

    def busy(self):
        return self._is_busy

    def begin(self, table):
        self._check_due(("idle", "begun"))
        head = self._shelf.read(self._shelf.pointed(table))
        self._table = table
        self._base = Base(head, self._title, self._shelf.moment())
        self._stage = "begun"

    def put(self, rows, *, size=SIZE):
        self._check_deed()
        self._hold(lambda: put_work(self._shelf, self._base, rows, size))

    def drop(self, where):
        self._check_deed()
        self._hold(lambda: drop_work(self._shelf, self._base, where))

    def change(self, where, name, worth):
        self._check_deed()
        self._hold(lambda: change_work(self._shelf, self._base, where, name, worth))

    def key(self, name, worth):
        self._check_deed()
        self._hold(lambda: key_work(self._shelf, self._base, name, worth))

    def reshape(self, changes):
        self._check_deed()
        self._hold(lambda: reshape_work(self._base, changes))

    def rerule(self, rule):
        self._check_deed()
        self._hold(lambda: rerule_work(self._base, rule))

    def gather(self, files, *, size=SIZE):
        self._check_deed()
        self._hold(lambda: gather_work(self._shelf, self._base, files, size))

    def back(self, number):
        self._check_deed()
        self._hold(lambda: back_work(self._base, number))

    def tag(self, tag, number):
        self._check_deed()
        self._hold(lambda: tag_work(self._base, tag, number))

    def untag(self, tag):
        self._check_deed()
        self._hold(lambda: untag_work(self._base, tag))

    def let_go(self, *, keep=KEEP, age=AGE):
        self._check_deed()
        self._hold(lambda: let_work(self._base, keep, age))

    def ready(self):
        self._check_due(("held", "ready"))
        return self._make_ready()

    def swap(self):
        self._check_due(("ready",))
        return self._swap()

    def commit(self, *, tries=TRIES, look=None):
        self._check_due(("held", "ready"))
        self._is_busy = True
        try:
            for _ in range(tries):
                self._make_ready()
                if look is not None:
                    look(self)
                number = self._swap()
                if number is not None:
                    return number
            raise Tired(tries)
        finally:
            self._is_busy = False

    def found(self):
        self._check_due(("unsure",))
        done = done_of(self._present(), self._title)
        is_done = done is not None and done[0] == self._base.turn
        self._stage = "idle" if is_done else "held"
        return is_done

    def leave(self):
        self._check_due(("begun", "held", "ready"))
        self._stage = "idle"

    def close(self):
        self._check_due(("idle", "begun", "held", "ready", "unsure", "closed"))
        self._stage = "closed"

    def _check_due(self, stages):
        if self._is_busy:
            raise Busy()
        if self._stage not in stages:
            raise NotNow(self._stage)

    def _check_deed(self):
        self._check_due(("begun",))
        self._present_in_time()

    def _present(self):
        return self._shelf.read(self._shelf.pointed(self._table))

    def _is_old(self):
        return self._shelf.moment() - self._base.began >= self._age

    def _present_in_time(self):
        """The present head, refused where it is too late for the base."""
        head = self._present()
        if self._is_old() or not tells_from(head, self._base.number):
            raise TooLate(self._base.number)
        return head

    def _alive(self, act):
        """What an act tells; a Crash in it is the end of this Writer."""
        try:
            return act()
        except Crash:
            self._stage = "dead"
            raise

    def _hold(self, deed):
        self._work = self._alive(deed)
        self._stage = "held"

    def _make_ready(self):
        ahead = self._shelf.pointed(self._table)
        head = self._present_in_time()
        check_again(head, self._work)
        meeting = met(self._shelf, head, self._work)
        if meeting[0] == "clash":
            raise Clash(meeting[1], meeting[2], meeting[3])
        newer, made = self._alive(lambda: self._write_head(head))
        self._ahead = ahead
        self._made = made
        self._last = last_number(newer)
        self._stage = "ready"
        return made

    def _write_head(self, head):
        newer = next_head(self._shelf, head, self._work)
        return newer, self._shelf.write("head", newer)

    def _swap(self):
        if self._is_old():
            self._stage = "held"
            raise TooLate(self._base.number)
        try:
            is_swapped = self._alive(lambda: self._shelf.swap(self._table, self._ahead, self._made))
        except Lost:
            self._stage = "unsure"
            raise
        self._stage = "idle" if is_swapped else "held"
        return self._last if is_swapped else None
