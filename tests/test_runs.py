"""Promise 3: whatever Writers, gatherings and lettings go do, a Reader sees the rows of the plain table.

Several Writers do deeds of chance (of a seed, so the same each time) with steps of theirs mixed, troubles among them;
a Plain does the same deeds in the order of their commits.
"""

import random
import unittest

from stillfiles.contents import is_content
from stillfiles.contenttexts import read_content, show_content
from stillfiles.errors import Clash, Missing, Over, StillError, TooLate, Trouble
from stillfiles.plain import Plain
from stillfiles.reading import entries_of, rows_of
from stillfiles.stores import Store

KINDS = ("small", "whole", "sign", "word")
WIDER = {"small": "whole", "whole": "whole", "sign": "word", "word": "word"}
WORDS = ("put", "put", "put", "drop", "change", "key", "reshape", "rerule", "gather", "back", "tag", "untag", "let")
SEEDS = range(120)
TURNS = 60


class Chance:
    def __init__(self, seed):
        self.random = random.Random(seed)

    def one(self, things):
        return self.random.choice(things)

    def is_so(self, hundredth):
        return self.random.randrange(100) < hundredth

    def number(self, least, most):
        return self.random.randint(least, most)

    def worth(self, kind):
        if self.is_so(20):
            return None
        if kind in ("small", "whole"):
            return self.number(-3, 3)
        return self.one("abc") if kind == "sign" else self.one(("", "a", "b", "ab", "c"))

    def condition(self, shape):
        tests = []
        for _ in range(self.one((0, 1, 1, 1, 2))):
            column = self.one(shape)
            tests.append((column[1], self.one(("is", "below", "from")), self.worth(column[2])))
        return tuple(tests)

    def rule(self, shape):
        fields = []
        for column in self.random.sample(shape, min(len(shape), self.one((0, 1, 1, 2)))):
            ways = (("range", 2), ("rest", 2)) if column[2] in ("small", "whole") else (("first", 1),)
            fields.append((column[1], self.one((("same",), *ways))))
        return tuple(fields)

    def changes(self, shape):
        changes = []
        for _ in range(self.one((1, 1, 2))):
            column, kind, name = self.one(shape), self.one(KINDS), self.one("abcdefgh")
            changes.append(self.one((("add", name, kind, self.worth(kind)), ("out", column[1]), ("name", column[1], name),
                                     ("widen", column[1], WIDER[column[2]]))))
        return tuple(changes)


class Run:
    """One seed's run."""

    def __init__(self, seed):
        self.chance = chance = Chance(seed)
        self.store = Store(age=chance.one((6, 30)), let=chance.one((5, 40)))
        columns = tuple([(name, kind, chance.worth(kind)) for name, kind in (("a", chance.one(KINDS)), ("b", chance.one(KINDS)))])
        rule = chance.rule(tuple([(number, *column) for number, column in enumerate(columns, start=1)]))
        self.store.make("fruit", columns, rule=rule)
        self.plain = Plain(columns, rule=rule)
        self.writers = {}
        self.deeds = {}
        self.readers = []
        self.seen = {"done": 0, "led": 0, "clash": 0, "late": 0, "found": 0, "trouble": 0}

    def turn(self):
        chance = self.chance
        if chance.is_so(8):
            self.store.shelf().trouble(chance.number(1, 4), chance.one(("crash", "void", "lost")))
        title = chance.one(("ann", "bob", "cid", "dan"))
        if title not in self.writers or self.writers[title].stage() == "dead":
            self.writers[title] = self.store.writer(title)
        writer = self.writers[title]
        try:
            self.step(title, writer)
        except Trouble:
            self.seen["trouble"] += 1
        except (Clash, TooLate) as refusal:
            self.seen["clash" if isinstance(refusal, Clash) else "late"] += 1
            writer.leave()
        except (StillError, Missing):
            if writer.stage() in ("held", "ready"):
                writer.leave()
        # Also of one whose answer was lost just now: what is done is done for all others, too.
        if writer.stage() == "unsure" and writer.found():
            self.seen["found"] += 1
            self.done(title)

    def step(self, title, writer):
        stage = writer.stage()
        if stage == "idle":
            writer.begin("fruit")
            self.deeds[title] = [None, self.store.head("fruit")[5][-1][0]]
        elif stage == "begun":
            self.deed(title, writer)
        elif stage == "held":
            writer.ready()
        elif stage == "ready" and writer.swap() is not None:
            self.done(title)

    def done(self, title):
        deed, base = self.deeds[title]
        self.seen["done"] += 1
        if deed is not None:
            if len(self.plain) > base:
                self.seen["led"] += 1
            self.plain.do(deed, base=base)

    def deed(self, title, writer):
        chance = self.chance
        base = self.deeds[title][1]
        shape = self.plain.shape(at=base)
        word, column = chance.one(WORDS), chance.one(shape)
        deed = None
        if word == "put":
            rows = [tuple([chance.worth(other[2]) for other in shape]) for _ in range(chance.number(0, 6))]
            deed = ("put", tuple(rows))
            writer.put(deed[1], size=chance.one((1, 2, 8)))
        elif word == "drop":
            deed = ("drop", chance.condition(shape))
            writer.drop(deed[1])
        elif word == "change":
            deed = ("change", chance.condition(shape), column[1], chance.worth(column[2]))
            writer.change(*deed[1:])
        elif word == "key":
            deed = ("key", column[1], chance.worth(column[2]))
            writer.key(*deed[1:])
        elif word == "reshape":
            deed = ("reshape", chance.changes(shape))
            writer.reshape(deed[1])
        elif word == "rerule":
            deed = ("rerule", chance.rule(shape))
            writer.rerule(deed[1])
        elif word == "gather":
            entries = entries_of(self.store.shelf(), self.store.head("fruit"), base)
            files = [entry[1] for entry in entries if entry[0] == "data"]
            deed = ("gather",)
            writer.gather(tuple(chance.random.sample(files, min(len(files), chance.number(0, 4)))), size=chance.one((2, 8)))
        elif word == "back":
            deed = ("back", chance.number(0, base))
            writer.back(deed[1])
        elif word == "tag":
            writer.tag(chance.one("xyz"), chance.number(0, base))
        elif word == "untag":
            writer.untag(chance.one("xyz"))
        else:
            writer.let_go(keep=chance.number(1, 4), age=chance.number(0, 10))
        self.deeds[title][0] = deed

    def others(self):
        """Readers come, time goes on, what is left over is swept."""
        chance = self.chance
        if chance.is_so(20):
            number = chance.one(self.store.head("fruit")[5])[0]
            self.readers.append((self.store.reader("fruit", at=number), number))
        if chance.is_so(30):
            self.store.wait(chance.number(1, 3))
        if chance.is_so(20):
            try:
                self.store.sweep()
            except Trouble:
                self.seen["trouble"] += 1


class Runs(unittest.TestCase):
    def check(self, run):
        store, plain = run.store, run.plain
        head = store.head("fruit")
        self.assertTrue(is_content(head))
        self.assertEqual(head[5][-1][0], len(plain))
        for commit in head[5]:
            number = commit[0]
            shape = head[2][commit[6]]
            where = run.chance.condition(shape)
            self.assertEqual(shape, plain.shape(at=number))
            self.assertEqual(rows_of(store.shelf(), head, number), plain.rows(at=number))
            self.assertEqual(rows_of(store.shelf(), head, number, where=where), plain.rows(at=number, where=where))
        self.assertEqual(head[3][head[5][-1][7]], plain.rule())
        for reader, number in run.readers:
            try:
                self.assertEqual(reader.rows(), plain.rows(at=number))
                self.assertEqual(reader.shape(), plain.shape(at=number))
            except Over:
                self.assertGreaterEqual(store.moment(), reader.ends())

    def test_runs(self):
        seen = {}
        for seed in SEEDS:
            run = Run(seed)
            with self.subTest(seed=seed):
                for _ in range(TURNS):
                    run.turn()
                    run.others()
                    self.check(run)
                for name in run.store.shelf().names():
                    content = run.store.shelf().read(name)
                    self.assertTrue(is_content(content))
                    self.assertEqual(read_content(show_content(content)), content)
            seen = {name: seen.get(name, 0) + count for name, count in run.seen.items()}
        # So that the runs are of use: each of these came often.
        self.assertEqual([name for name, count in seen.items() if count < 10], [])


if __name__ == "__main__":
    unittest.main()
