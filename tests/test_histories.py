"""Promise 38: papers of claims, whoever wrote them."""

import itertools
import random
import unittest

from stillfiles.errors import Clash, Lost, Missing, StillError
from stillfiles.histories import history_paper
from stillfiles.historychecks import history_holds
from stillfiles.plain import Plain
from stillfiles.stores import Store
from things import ANYTHING, LARGE

COLUMNS = (("name", "word", "none"), ("many", "small", 0))
FIG, KIWI = ("fig", 3), ("kiwi", 5)


def put(start, end, *rows, told="done"):
    return (start, end, ("put", rows), told)


def drop(start, end, *where, told="done"):
    return (start, end, ("drop", where), told)


def read(start, end, *rows, where=()):
    return (start, end, ("read", where), rows)


def can_be(columns, claims, numbers):
    """Whether unlike numbers of claims are a paper, by the words of the promise."""
    for number, claim in enumerate(claims):
        due = {"done": True, "refused": False, "lost": None}.get(claim[3], True) if claim[2][0] != "read" else True
        if due is not None and due != (number in numbers):
            return False
    for at, number in enumerate(numbers):
        for later in numbers[at + 1:]:
            if claims[later][1] <= claims[number][0]:
                return False
    plain = Plain(columns)
    for number in numbers:
        deed, told = claims[number][2:]
        try:
            if deed[0] != "read":
                plain.do(deed)
            elif repr(plain.rows(where=deed[1])) != repr(told):
                return False
        except (StillError, Missing):
            return False
    return True


def orders(claims):
    every = range(len(claims))
    return itertools.chain.from_iterable(itertools.permutations(every, many) for many in range(len(claims) + 1))


class Histories(unittest.TestCase):
    def check(self, *claims, papers=None, columns=COLUMNS):
        """Just these papers hold, and one of them is told, where there is one."""
        right = [numbers for numbers in orders(claims) if can_be(columns, claims, numbers)]
        if papers is not None:
            self.assertEqual(right, papers)
        for numbers in orders(claims):
            self.assertIs(history_holds(columns, claims, numbers), numbers in right, numbers)
        told = history_paper(columns, claims)
        if right:
            self.assertIn(told, right)
        else:
            self.assertIsNone(told)
        return right

    def test_of_none(self):
        self.assertEqual(history_paper(columns=COLUMNS, claims=()), ())
        self.assertIs(history_holds(columns=COLUMNS, claims=(), thing=()), True)
        for thing in ANYTHING:
            self.assertIs(history_holds(COLUMNS, (), thing), thing == ())

    def test_one_behind_another(self):
        self.check(put(0, 1, FIG), read(1, 2, FIG), put(2, 5, KIWI), read(5, 6, FIG, KIWI), papers=[(0, 1, 2, 3)])
        self.check(read(5, 6, FIG, KIWI), put(2, 5, KIWI), read(1, 2, FIG), put(0, 1, FIG), papers=[(3, 2, 1, 0)])
        self.check(put(0, 1, FIG), read(1, 2, FIG, KIWI), put(2, 5, KIWI), papers=[])
        self.check(put(0, 1, FIG), read(1, 2), papers=[])
        self.check(read(0, 1), put(1, 2, FIG), papers=[(0, 1)])
        self.check(read(0, 1, FIG), put(1, 2, FIG), papers=[])

    def test_an_end_no_greater_than_a_start_is_ahead(self):
        self.check(put(0, 5, FIG), read(5, 6), papers=[])
        self.check(put(0, 6, FIG), read(5, 7), papers=[(1, 0)])
        self.check(put(0, 6, FIG), read(5, 7, FIG), papers=[(0, 1)])
        self.check(put(4, 6, FIG), read(4, 6, FIG), papers=[(0, 1)])
        self.check(put(3, LARGE, FIG), read(LARGE - 1, LARGE, FIG), papers=[(0, 1)])

    def test_overlapping(self):
        self.check(put(0, 9, FIG), put(0, 9, KIWI), papers=[(0, 1), (1, 0)])
        self.check(put(0, 9, FIG), drop(0, 9), read(9, 10), papers=[(0, 1, 2)])
        self.check(put(0, 9, FIG), drop(0, 9), read(9, 10, FIG), papers=[(1, 0, 2)])
        self.check(put(0, 9, FIG), read(1, 2, FIG), read(3, 4), papers=[])
        self.check(put(0, 9, FIG), read(1, 2), read(3, 4, FIG), papers=[(1, 0, 2)])
        self.check(put(0, 9, FIG), put(0, 9, KIWI), read(1, 8, KIWI), read(0, 9, FIG, KIWI), papers=[(1, 2, 0, 3)])

    def test_each_deed(self):
        change = (2, 3, ("change", (("name", "is", "fig"),), "many", 7), "done")
        key = (4, 5, ("key", "many", 5), "done")
        self.check(put(0, 1, FIG, KIWI), change, read(3, 4, ("fig", 7), KIWI), key, read(5, 6, ("fig", 7)),
                   papers=[(0, 1, 2, 3, 4)])
        self.check(put(0, 1, FIG, KIWI), drop(1, 2, ("many", "from", 4)), read(2, 3, FIG), papers=[(0, 1, 2)])
        self.check(put(0, 1, FIG, KIWI), read(2, 3, KIWI, where=(("many", "from", 4),)),
                   read(2, 3, where=(("many", "is", 4),)), papers=[(0, 1, 2), (0, 2, 1)])

    def test_refused(self):
        self.check(put(0, 1, FIG, told="refused"), read(1, 2), papers=[(1,)])
        self.check(put(0, 1, FIG, told="refused"), read(1, 2, FIG), papers=[])
        self.check((0, 1, ("key", "kind", 1), "refused"), papers=[()])
        self.check(*[put(0, 1, FIG, told="refused")] * 4, papers=[()])

    def test_lost(self):
        lost = put(0, 1, FIG, told="lost")
        self.check(lost, papers=[(), (0,)])
        self.check(lost, read(2, 3, FIG), papers=[(0, 1)])
        self.check(lost, read(2, 3), papers=[(1,)])
        self.check(lost, read(2, 3, KIWI), papers=[])
        self.check(lost, read(2, 3), read(3, 4, FIG), papers=[])
        self.check(put(0, 9, FIG, told="lost"), read(2, 3), read(3, 4, FIG), papers=[(1, 0, 2)])
        self.check(lost, put(0, 1, FIG, told="lost"), read(2, 3, FIG), papers=[(0, 2), (1, 2)])
        self.check(lost, drop(0, 9, told="lost"), read(2, 3), papers=[(2,), (1, 2), (2, 1), (0, 1, 2)])

    def test_reads_just_so(self):
        start = put(0, 1, FIG, KIWI, KIWI)
        self.check(start, read(1, 2, FIG, KIWI, KIWI), papers=[(0, 1)])
        for rows in ((KIWI, FIG, KIWI), (KIWI, KIWI, FIG), (FIG, KIWI), (KIWI, KIWI), (FIG, KIWI, KIWI, KIWI), (),
                     (FIG, KIWI, ("kiwi",)),
                     (FIG, KIWI, ("kiwi", 5, 5))):
            self.check(start, read(1, 2, *rows), papers=[])
        for told in ([FIG, KIWI, KIWI], (list(FIG), KIWI, KIWI), "done", None):
            self.assertIsNone(history_paper(COLUMNS, (start, (1, 2, ("read", ()), told))))
            self.assertIs(history_holds(COLUMNS, (start, (1, 2, ("read", ()), told)), (0, 1)), False)

    def test_a_truth_is_no_whole_number(self):
        for many, truth in ((1, True), (0, False)):
            start = put(0, 1, ("fig", many))
            self.check(start, read(1, 2, ("fig", many)), papers=[(0, 1)])
            self.check(start, read(1, 2, ("fig", truth)), papers=[])
            self.check(put(0, 1, ("fig", truth)), papers=[])
            self.check(start, drop(1, 2, ("many", "is", truth)), papers=[])
            self.check(start, read(1, 2, where=(("many", "is", truth),)), papers=[])

    def test_what_a_plain_refuses(self):
        for deed in (("put", (("fig",),)), ("put", (FIG, ("fig", "a"))), ("drop", (("kind", "is", 1),)),
                     ("drop", (("many", "is"),)),
                     ("change", (), "kind", 1), ("change", (), "many", "a"), ("key", "kind", 1), ("key", "many", 100)):
            self.check((0, 1, deed, "done"), papers=[])
            self.check((0, 1, deed, "lost"), papers=[()])
            self.check((0, 1, deed, "refused"), papers=[()])
        for where in ((("kind", "is", 1),), (("many", "over", 1),), None, (("many", "is", 1),) * 5):
            self.check(put(0, 1, FIG), (1, 2, ("read", where), ()), papers=[])

    def test_a_lost_one_that_is_refused(self):
        bad = (0, 9, ("put", (("fig", 100),)), "lost")
        self.check(bad, put(0, 9, FIG), papers=[(1,)])

    def test_columns(self):
        rows = ((None,), (-10 ** 12,), (10 ** 12,))
        self.check((0, 1, ("put", rows[::-1]), "done"), (1, 2, ("read", ()), rows), columns=(("a", "whole", None),),
                   papers=[(0, 1)])
        self.check((0, 1, ("put", rows), "done"), columns=(("a", "small", None),), papers=[])

    def test_six_at_once(self):
        every = [put(0, 9, (name, 1)) for name in "abcde"]
        self.assertIsNone(history_paper(COLUMNS, (*every, read(0, 9, ("z", 1)))))
        rows = (("a", 1), ("c", 1), ("d", 1))
        told = history_paper(COLUMNS, (*every, read(0, 9, *rows)))
        self.assertEqual((sorted(told[:3]), told[3], sorted(told[4:])), ([0, 2, 3], 5, [1, 4]))
        lost = tuple([put(0, 9, (name, 1), told="lost") for name in "abcdef"])
        self.check(*lost[:5])
        self.assertIs(history_holds(COLUMNS, lost, history_paper(COLUMNS, lost)), True)

    def test_of_chance(self):
        found = {True: 0, False: 0}
        for seed in range(250):
            chance = random.Random(seed)
            claims = []
            for _ in range(chance.randint(1, 5)):
                start = chance.randint(0, 6)
                row = (chance.choice("ab"), chance.randint(0, 1))
                deed = chance.choice((("put", (row,)), ("put", (row,)), ("drop", (("many", "is", row[1]),)),
                                      ("key", "name", row[0]),
                                      ("change", (("name", "is", row[0]),), "many", row[1]), ("read", ())))
                told = chance.choice(("done", "done", "lost", "refused"))
                if deed[0] == "read":
                    told = tuple(sorted((chance.choice("ab"), chance.randint(0,
                                                                             1)) for _ in range(chance.choice((0, 0, 1,
                                                                                                               1, 2)))))
                claims.append((start, start + chance.randint(1, 4), deed, told))
            found[bool(self.check(*claims))] += 1
        self.assertGreater(min(found.values()), 40)


class Checker(unittest.TestCase):
    CLAIMS = (put(0, 4, FIG), put(1, 5, KIWI), (0, 9, ("key", "many", 3), "refused"), put(6, 7, FIG, told="lost"),
              read(8, 9, FIG, KIWI))

    def holds(self, thing):
        told = history_holds(COLUMNS, self.CLAIMS, thing)
        self.assertIn(told, (True, False))
        return told

    def test_any_right_paper(self):
        for thing in ((0, 1, 4), (1, 0, 4)):
            self.assertIs(self.holds(thing), True)

    def test_otherwise(self):
        right = (0, 1, 4)
        for thing in (right[1:], right[:-1], (0, 4), (0, 1, 2, 4), (2, 0, 1, 4), (0, 0, 1, 4), (0, 1, 4, 4), (0, 4, 1),
                      (4, 0, 1), (0, 1, 3, 4),
                      (0, 1, 4, 3), (3, 0, 1, 4), (), (0, 1, 4, 5), (0, 1, 4, -1), (-5, 1, 4), (0, 1, -1), list(right),
                      (right,),
                      (False, 1, 4), (0, True, 4), (0, True, 1, 4), ("0", 1, 4), (0, 1, None), (0, 1, LARGE),
                      (0, [1], 4), (0, {}, 4)):
            self.assertIs(self.holds(thing), False, thing)

    def test_of_anything(self):
        for thing in ANYTHING:
            self.assertIs(self.holds(thing), False)
            for place in range(3):
                other = [0, 1, 4]
                other[place] = thing
                right = type(thing) is int and tuple(other) in ((0, 1, 4), (1, 0, 4))
                self.assertIs(self.holds(tuple(other)), right)


class OfStores(unittest.TestCase):
    """What Writers claim of a Store can have been."""

    def claimed(self, chance, store, title, start, deed):
        """The claim of a deed that was begun at a moment, whatever comes of it now."""
        writer = self.writers[title]
        store.wait(1)
        if chance.random() < 0.2:
            store.shelf().trouble(chance.randint(1, 4), chance.choice(("lost", "void")))
        try:
            writer.commit()
            told = "done"
        except Clash:
            told = "refused"
        except Lost:
            told = "lost" if writer.stage() == "unsure" else "refused"
        # Another trouble takes the place of one that still waits.
        store.shelf().trouble(10_000, "void")
        store.wait(1)
        return start, store.moment(), deed, told

    def test_they_can_have_been(self):
        answers = {}
        for seed in range(200):
            chance = random.Random(seed)
            store = Store(age=100)
            store.make("fruit", COLUMNS)
            self.writers, begun, claims = {}, {}, []
            while len(claims) + len(begun) < 6 or begun:
                titles = [title for title in "abc" if title not in begun]
                if len(claims) + len(begun) < 6 and titles and chance.random() < 0.6:
                    title = chance.choice(titles)
                    if chance.random() < 0.3:
                        start = store.moment()
                        rows = store.reader("fruit").rows()
                        store.wait(1)
                        claims.append((start, store.moment(), ("read", ()), rows))
                        continue
                    self.writers[title] = writer = store.writer(title)
                    begun[title] = (store.moment(), chance.choice((
                        ("put", ((chance.choice("xy"), chance.randint(0, 2)),)),
                        ("drop", (("many", "is", chance.randint(0, 2)),)),
                        ("change", (("name", "is", "x"),), "many", chance.randint(0, 2)),
                        ("key", "many", chance.randint(0, 2)))))
                    writer.begin("fruit")
                    act = {"put": writer.put, "drop": writer.drop, "change": writer.change,
                           "key": writer.key}[begun[title][1][0]]
                    act(*begun[title][1][1:])
                elif begun:
                    title = chance.choice(sorted(begun))
                    claims.append(self.claimed(chance, store, title, *begun.pop(title)))
                    self.writers[title].close()
            for claim in claims:
                answers[claim[3]] = answers.get(claim[3], 0) + 1
            told = history_paper(COLUMNS, tuple(claims))
            self.assertIsNotNone(told, (seed, claims))
            self.assertIs(history_holds(COLUMNS, tuple(claims), told), True)
        self.assertGreater(min(answers[word] for word in ("done", "refused", "lost")), 10)


if __name__ == "__main__":
    unittest.main()
