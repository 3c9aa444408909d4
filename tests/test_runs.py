"""Promise 3: whatever Writers, gatherings and lettings go do, a Reader sees the rows of the plain table.

Several Writers do deeds of chance (of a seed, so the same each time) on two tables with steps of theirs mixed, troubles
among them; for each table a Plain does the same deeds in the order of their commits. What they are led over and refused
with, rows, changes and chains are held by the checkers.
"""

import random
import unittest

from stillfiles.changes import changes_of, put_on
from stillfiles.contents import is_content
from stillfiles.contenttexts import read_content, show_content
from stillfiles.errors import Clash, Missing, Over, StillError, TooLate, Trouble
from stillfiles.faults import faults_of
from stillfiles.findings import finding_holds
from stillfiles.gathering import small_ones
from stillfiles.meetchecks import clash_holds, is_work, led_holds
from stillfiles.meeting import met
from stillfiles.paperchecks import chain_holds, none_holds, row_holds
from stillfiles.papers import chain_of, none_paper, row_paper
from stillfiles.plain import Plain
from stillfiles.reading import entries_of, rows_of
from stillfiles.shapes import read_by
from stillfiles.stores import Store

KINDS = ("small", "whole", "sign", "word")
WIDER = {"small": "whole", "whole": "whole", "sign": "word", "word": "word"}
WORDS = ("put", "put", "put", "drop", "drop", "change", "change", "key", "reshape", "rerule", "gather", "gather",
         "gather",
         "back", "tag", "untag", "let")
TABLES = ("fruit", "nut")
SEEDS = range(250)
TURNS = 110


class Chance:
    def __init__(self, seed):
        self.random = random.Random(seed)

    def one(self, things):
        return self.random.choice(things)

    def is_so(self, hundredth):
        return self.random.randrange(100) < hundredth

    def number(self, least, most):
        return self.random.randint(least, most)

    def worth(self, kind):
        if self.is_so(20):
            return None
        if kind in ("small", "whole"):
            return self.number(-3, 3)
        return self.one("abc") if kind == "sign" else self.one(("", "a", "b", "ab", "c"))

    def condition(self, shape):
        tests = []
        for _ in range(self.one((0, 1, 1, 1, 2))):
            column = self.one(shape)
            tests.append((column[1], self.one(("is", "below", "from")), self.worth(column[2])))
        return tuple(tests)

    def rule(self, shape):
        fields = []
        for column in self.random.sample(shape, min(len(shape), self.one((0, 1, 1, 2)))):
            ways = (("range", 2), ("rest", 2)) if column[2] in ("small", "whole") else (("first", 1),)
            fields.append((column[1], self.one((("same",), *ways))))
        return tuple(fields)

    def changes(self, shape):
        changes = []
        for _ in range(self.one((1, 1, 2))):
            column, kind, name = self.one(shape), self.one(KINDS), self.one("abcdefgh")
            changes.append(self.one((("add", name, kind, self.worth(kind)), ("out", column[1]),
                                     ("name", column[1], name),
                                     ("widen", column[1], WIDER[column[2]]))))
        return tuple(changes)


class Run:
    """One seed's run."""

    def __init__(self, seed):
        self.chance = chance = Chance(seed)
        self.store = Store(age=chance.one((8, 40)), let=chance.one((5, 40)))
        self.plains = {}
        for table in TABLES:
            columns = tuple([(name, kind, chance.worth(kind)) for name,
                             kind in (("a", chance.one(KINDS)), ("b", chance.one(KINDS)))])
            rule = chance.rule(tuple([(number, *column) for number, column in enumerate(columns, start=1)]))
            self.store.make(table, columns, rule=rule)
            self.plains[table] = Plain(columns, rule=rule)
        self.writers = {}
        # Of each title: the table, the base and the deed that a Plain does, None of one that it doesn't.
        self.deeds = {}
        self.readers = []
        # The head of each table that was looked at last, and what is to be found of files.
        self.heads = {}
        self.findings = []
        self.seen = {}

    def see(self, name):
        self.seen[name] = self.seen.get(name, 0) + 1

    def turn(self):
        chance = self.chance
        if chance.is_so(8):
            self.store.shelf().trouble(chance.number(1, 4), chance.one(("crash", "void", "lost")))
        title = chance.one(("ann", "bob", "cid", "dan", "eve"))
        if title not in self.writers or self.writers[title].stage() == "dead":
            self.writers[title] = self.store.writer(title)
        writer = self.writers[title]
        try:
            self.step(title, writer)
        except Trouble as trouble:
            self.see(trouble.__class__.__name__)
        except Clash as clash:
            self.see("clash by " + clash.word)
            self.clashed(title, writer.work(), ("clash", clash.number, clash.word, clash.file))
            writer.leave()
        except TooLate:
            self.see("late")
            writer.leave()
        except (StillError, Missing):
            if writer.stage() in ("held", "ready"):
                writer.leave()
        # Also of one whose answer was lost just now: what is done is done for all others, too.
        if writer.stage() == "unsure" and writer.found():
            self.see("found")
            self.done(title)

    def step(self, title, writer):
        stage = writer.stage()
        if stage == "idle":
            table = self.chance.one(TABLES)
            writer.begin(table)
            self.deeds[title] = [table, self.store.head(table)[5][-1][0], None]
        elif stage == "begun":
            self.deed(title, writer)
            assert is_work(writer.work()), writer.work()
        elif stage == "held":
            head = self.store.head(self.deeds[title][0])
            writer.ready()
            self.led(head, writer.work(), self.store.shelf().pointed(head[1]))
        elif stage == "ready" and writer.swap() is not None:
            self.done(title)

    def done(self, title):
        table, base, deed = self.deeds[title]
        self.see("done")
        if deed is not None:
            plain = self.plains[table]
            if len(plain) > base:
                self.see("led")
            plain.do(deed, base=base)

    def led(self, head, work, file):
        """What is told of one who may go on is held by the checker, as it stands and as a finding."""
        place = self.store.shelf()
        told = met(place, head, work)
        assert told[0] == "led" and led_holds(place, head, work, told), (work, told)
        assert not led_holds(place, head, work, ("led", (*told[1], (0, ())))), work
        if told[1] and self.chance.is_so(10):
            self.find("led", file, work, told)

    def clashed(self, title, work, told):
        place, head = self.store.shelf(), self.store.head(self.deeds[title][0])
        assert met(place, head, work) == told and clash_holds(place, head, work, told), (work, told)
        rows = tuple([(number, ()) for number in range(work[3] + 1, head[5][-1][0] + 1)])
        assert not led_holds(place, head, work, ("led", rows)), work
        assert not clash_holds(place, head, work, ("clash", head[5][-1][0] + 1, *told[2:])), work
        if self.chance.is_so(20):
            self.find("clash", place.pointed(head[1]), work, told)

    def find(self, word, file, *rest):
        place = self.store.shelf()
        self.findings.append((word, tuple([(name, place.read(name)) for name in place.names()]), file, *rest))

    def deed(self, title, writer):
        chance = self.chance
        table, base = self.deeds[title][:2]
        shape = self.plains[table].shape(at=base)
        word, column = chance.one(WORDS), chance.one(shape)
        deed = None
        if word == "put":
            rows = [tuple([chance.worth(other[2]) for other in shape]) for _ in range(chance.number(0, 6))]
            deed = ("put", tuple(rows))
            writer.put(deed[1], size=chance.one((1, 2, 8)))
        elif word == "drop":
            deed = ("drop", chance.condition(shape))
            writer.drop(deed[1])
        elif word == "change":
            deed = ("change", chance.condition(shape), column[1], chance.worth(column[2]))
            writer.change(*deed[1:])
        elif word == "key":
            deed = ("key", column[1], chance.worth(column[2]))
            writer.key(*deed[1:])
        elif word == "reshape":
            deed = ("reshape", chance.changes(shape))
            writer.reshape(deed[1])
        elif word == "rerule":
            deed = ("rerule", chance.rule(shape))
            writer.rerule(deed[1])
        elif word == "gather":
            deed = ("gather",)
            writer.gather(self.gathered(table, base), size=chance.one((2, 8)))
        elif word == "back":
            deed = ("back", chance.number(0, base))
            writer.back(deed[1])
        elif word == "tag":
            writer.tag(chance.one("xyz"), chance.number(0, base))
        elif word == "untag":
            writer.untag(chance.one("xyz"))
        else:
            writer.let_go(keep=chance.number(1, 4), age=chance.number(0, 10))
        self.see(word)
        self.deeds[title][2] = deed

    def gathered(self, table, base):
        """Small ones, where there are such, or data files of chance."""
        place, head = self.store.shelf(), self.store.head(table)
        groups = small_ones(place, head, base, below=self.chance.number(1, 8))
        if groups and self.chance.is_so(50):
            return self.chance.one(groups)
        files = [entry[1] for entry in entries_of(place, head, base) if entry[0] == "data"]
        return tuple(self.chance.random.sample(files, min(len(files), self.chance.number(0, 4))))

    def others(self):
        """Readers come, time goes on, what is left over is swept."""
        chance = self.chance
        if chance.is_so(20):
            table = chance.one(TABLES)
            number = chance.one(self.store.head(table)[5])[0]
            self.readers = [reader for reader in self.readers if reader.ends() > self.store.moment()]
            if len(self.readers) < 6:
                self.readers.append(self.store.reader(table, at=number))
        if chance.is_so(12):
            self.store.wait(chance.number(1, 3))
        if chance.is_so(20):
            try:
                self.store.sweep()
                self.see("sweep")
            except Trouble as trouble:
                self.see(trouble.__class__.__name__)


class Runs(unittest.TestCase):
    def check_table(self, run, table):
        """A head that wasn't looked at yet: no faults, and each commit's rows are those of the plain table."""
        place, plain, file = run.store.shelf(), run.plains[table], run.store.shelf().pointed(table)
        if run.heads.get(table) == file:
            return
        run.heads[table] = file
        self.assertEqual(faults_of(place, file), ())
        head = place.read(file)
        self.assertTrue(is_content(head))
        self.assertEqual(head[5][-1][0], len(plain))
        for commit in head[5]:
            number = commit[0]
            shape = head[2][commit[6]]
            where = run.chance.condition(shape)
            rows = plain.rows(at=number)
            self.assertEqual(shape, plain.shape(at=number))
            self.assertEqual(rows_of(place, head, number), rows)
            met_ones = plain.rows(at=number, where=where)
            self.assertEqual(rows_of(place, head, number, where=where), met_ones)
            self.check_papers(run, head, number, where, met_ones)
        self.assertEqual(head[3][head[5][-1][7]], plain.rule())
        self.check_changes(run, head)

    def check_papers(self, run, head, number, where, met_ones):
        place = run.store.shelf()
        paper = none_paper(place, head, number, where)
        self.assertEqual(paper is None, met_ones != ())
        self.assertIs(none_holds(place, head, number, where, paper), paper is not None)
        row = run.chance.one(met_ones) if met_ones else tuple([None] * len(head[2][-1]))
        paper = row_paper(place, head, number, row)
        self.assertEqual(paper is None, row not in rows_of(place, head, number))
        self.assertIs(row_holds(place, head, number, row, paper), paper is not None)
        if paper is not None and run.chance.is_so(2):
            run.find("row", place.pointed(head[1]), number, row, paper)

    def check_changes(self, run, head):
        place = run.store.shelf()
        one, other = sorted([run.chance.one(head[5])[0] for _ in range(2)])
        shapes = [head[2][commit[6]] for number in (one, other) for commit in head[5] if commit[0] == number]
        rows = tuple([read_by(*shapes, row) for row in rows_of(place, head, one)])
        self.assertEqual(put_on(rows, changes_of(place, head, one, other)), rows_of(place, head, other))

    def check_chains(self, run):
        store = run.store
        named = store.named()
        for name in store.shelf().names():
            chain = chain_of(store, name)
            self.assertEqual(chain is not None, name in named)
            self.assertIs(chain_holds(store, name, chain), chain is not None)

    def check_readers(self, run):
        for reader in run.readers:
            try:
                plain = run.plains[reader.table()]
                self.assertEqual(reader.rows(), plain.rows(at=reader.commit_number()))
                self.assertEqual(reader.shape(), plain.shape(at=reader.commit_number()))
            except Over:
                self.assertGreaterEqual(run.store.moment(), reader.ends())

    def check_end(self, run):
        self.check_chains(run)
        for name in run.store.shelf().names():
            content = run.store.shelf().read(name)
            self.assertTrue(is_content(content))
            self.assertEqual(read_content(show_content(content)), content)
        for finding in run.findings:
            self.assertIs(finding_holds(finding), True)
            run.see("finding " + finding[0])

    def test_runs(self):
        seen = {}
        for seed in SEEDS:
            run = Run(seed)
            with self.subTest(seed=seed):
                for turn in range(TURNS):
                    run.turn()
                    run.others()
                    for table in TABLES:
                        self.check_table(run, table)
                    self.check_readers(run)
                self.check_end(run)
            seen = {name: seen.get(name, 0) + run.seen.get(name, 0) for name in {**seen, **run.seen}}
        # So that the runs are of use: each of these came often.
        words = ("back", "shape", "rule", "took", "marked", "put", "key")
        names = (*WORDS, *["clash by " + word for word in words], *["finding " + word for word in ("row", "led",
                                                                                                   "clash")])
        for name in (*names, "done", "led", "late", "found", "sweep", "Crash", "Lost"):
            self.assertGreaterEqual(seen.get(name, 0), 5, (name, seen))


if __name__ == "__main__":
    unittest.main()
