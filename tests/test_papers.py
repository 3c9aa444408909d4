"""Promises 35 and 36: papers of rows that stand and of conditions that no row meets; Folders as places."""

import itertools

import unittest

from hands import Hand
from openings import shelf_of
from refusing import Refusing
from right_contents import at_place, paths_of, with_place
from stillfiles.changes import changes_of
from stillfiles.errors import NoColumn, NoCommit, NoCond
from stillfiles.gathering import small_ones
from stillfiles.meetchecks import clash_holds, led_holds
from stillfiles.meeting import met
from stillfiles.paperchecks import none_holds, row_holds
from stillfiles.papers import none_paper, row_paper
from stillfiles.planning import plan_of
from stillfiles.reading import away, entries_of, rows_of
from stillfiles.shelves import Folder
from things import ANYTHING, LARGE

NAME, MANY, MARK = (1, "name", "word", "none"), (2, "many", "small", 0), (3, "mark", "sign", "x")
SHAPES = ((NAME, MANY), (MARK, NAME, MANY), (NAME,))
RULES = ((), ((2, ("range", 10)),))


class Papers(Refusing):
    def setUp(self):
        """Commit 0: fig 3, kiwi 5, fig 3 in d1; commit 1: kiwi 12, date 15 by parts in d3, apple 1 in d4, whose list
        has marks for the first fig and a key of kiwis; commit 2 by a shape with a mark; commit 3 has no list."""
        hand = self.hand = Hand(SHAPES, RULES)
        self.one = hand.data(0, (("fig", 3), ("kiwi", 5), ("fig", 3)))
        self.first = hand.list(self.one)
        self.two = hand.data(1, (("kiwi", 12), ("date", 15)), rule=1, part=(1,))
        self.three = hand.data(1, (("apple", 1), (None, None)))
        self.second = hand.list(self.two)
        self.third = hand.list(hand.marks(1, self.one[1], (0,)), self.three, hand.key(1, 1, "kiwi"))
        hand.commit(self.first)
        hand.commit(self.second, self.third)
        hand.commit(shape=1)
        hand.commit(keep=(), shape=2)

    def row(self, number, row):
        return row_paper(self.hand.folder(), self.hand.head(), number, row)

    def none(self, number, *where):
        return none_paper(self.hand.folder(), self.hand.head(), number, where)

    def row_is_so(self, number, row, thing):
        told = row_holds(self.hand.folder(), self.hand.head(), number, row, thing)
        self.assertIn(told, (True, False))
        return told

    def none_is_so(self, number, where, thing):
        told = none_holds(self.hand.folder(), self.hand.head(), number, where, thing)
        self.assertIn(told, (True, False))
        return told

    def triples(self, number, row):
        """All papers of a row that hold."""
        places = (*range(-4, 4), True, False, None, LARGE)
        every = itertools.product((*self.hand.files, "l99", None), (*self.hand.files, "d99", None), places)
        return [triple for triple in every if self.row_is_so(number, row, triple)]


class Rows(Papers):
    def test_papers_of_rows(self):
        one, two, three = self.first[0], self.second[0], self.third[0]
        papers = {
            (0, ("fig", 3)): [(one, self.one[1], 0), (one, self.one[1], 2)], (0, ("kiwi", 5)): [(one, self.one[1], 1)],
            (0, ("date", 15)): [], (1, ("fig", 3)): [(one, self.one[1], 2)], (1, ("kiwi", 5)): [],
            (1, ("kiwi", 12)): [(two, self.two[1], 0)], (1, ("date", 15)): [(two, self.two[1], 1)],
            (1, ("apple", 1)): [(three, self.three[1], 0)], (1, (None, None)): [(three, self.three[1], 1)],
            (2, ("x", "fig", 3)): [(one, self.one[1], 2)], (2, ("x", None, None)): [(three, self.three[1], 1)],
            (2, ("fig", 3)): [], (2, ("y", "fig", 3)): [], (2, (None, "fig", 3)): [], (3, ("fig",)): [], (3, ()): [],
        }
        for (number, row), triples in papers.items():
            self.assertEqual(self.triples(number, row), triples, (number, row))
            if triples:
                self.assertIn(self.row(number, row), triples)
            else:
                self.assertIsNone(self.row(number, row))
        place, head = self.hand.folder(), self.hand.head()
        paper = row_paper(place=place, head=head, number=1, row=("date", 15))
        self.assertEqual(paper, (two, self.two[1], 1))
        self.assertIs(row_holds(place=place, head=head, number=1, row=("date", 15), thing=paper), True)

    def test_by_a_shape_that_lacks_a_column(self):
        self.hand.commit(self.first, shape=2)
        for row, triples in ((("fig",), [(self.first[0], self.one[1], at) for at in (0, 2)]), (("fig", 3), []),
                             ((), [])):
            self.assertEqual(self.triples(4, row), triples)
            self.assertEqual(self.row(4, row) in triples, bool(triples))

    def test_rows_of_truths_and_of_what_is_no_worth(self):
        for row in ((None, True), ("apple", True), ("apple", False), ("apple", 1, True), (True, "apple", 1),
                    ("Apple", 1),
                    ("apple", LARGE), ("apple", (1,)), ([], 1), ({}, 1), (["apple", 1],), ()):
            self.assertIsNone(self.row(1, row))
            for paper in ((self.third[0], self.three[1], 0), (self.third[0], self.three[1], 1)):
                self.assertIs(self.row_is_so(1, row, paper), False)
        for thing in ANYTHING:
            self.assertIsNone(self.row(1, thing))
            self.assertIs(self.row_is_so(1, thing, (self.third[0], self.three[1], 0)), False)
            self.assertIs(self.row_is_so(1, ("apple", thing), (self.third[0], self.three[1], 0)),
                          thing == 1 and thing is not True)

    def test_no_commit(self):
        for thing in (*ANYTHING, 4):
            if isinstance(thing, bool) or thing not in (0, 1, 2, 3):
                self.refused(NoCommit, lambda: self.row(thing, ("fig", 3)), number=thing)
                self.refused(NoCommit, lambda: self.row(thing, True), number=thing)
                self.assertIs(self.row_is_so(thing, ("fig", 3), (self.first[0], self.one[1], 2)), False)

    def test_one_thing_otherwise(self):
        paper, row = (self.third[0], self.three[1], 1), (None, None)
        self.assertIs(self.row_is_so(1, row, paper), True)
        for path in paths_of(paper):
            there = at_place(paper, path)
            for other in (True, False, None, (), [], {}, [there], (there,), self.one[1], self.first[0], "l1", 0, 2, -1,
                          LARGE):
                self.assertIs(self.row_is_so(1, row, with_place(paper, path, other)), False, (path, other))
        for thing in (list(paper), paper[:2], paper[1:], (*paper, 0), paper[::-1]):
            self.assertIs(self.row_is_so(1, row, thing), False)
        for number in (0, 2, 3):
            self.assertIs(self.row_is_so(number, row, paper), False)
        self.assertIs(self.row_is_so(2, ("x", None, None), paper), True)

    def test_of_anything(self):
        paper = (self.third[0], self.three[1], 1)
        for thing in ANYTHING:
            self.assertIs(self.row_is_so(1, (None, None), thing), False)
            for place in range(3):
                other = with_place(paper, (place,), thing)
                self.assertIs(self.row_is_so(1, (None, None), other), thing is not True and other == paper)


class Nones(Papers):
    def papers(self, number, where):
        """For each data entry in order what may stand behind its file, of all that there is."""
        files = [entry[1] for entry in entries_of(self.hand.folder(), self.hand.head(), number) if entry[0] == "data"]
        ks = (None, *range(-1, len(where) + 1), True, False, LARGE)
        told = [pairs for pairs in itertools.product(ks, repeat=len(files))
                if self.none_is_so(number, where, tuple(zip(files, pairs)))]
        ways = [tuple(k for k in ks if k in {pairs[at] for pairs in told} and type(k) is not bool) for at in range(len(files))]
        # Each entry is shown by itself, so what holds is each way with each of the others.
        self.assertEqual(told, list(itertools.product(*ways)))
        return list(zip(files, ways))

    def check(self, number, where, *ways):
        """For each data entry in order just these ks hold, and there is a paper of some of them."""
        told = self.papers(number, where)
        self.assertEqual([ks for _, ks in told], list(ways))
        paper = self.none(number, *where)
        self.assertEqual([file for file, _ in paper], [file for file, _ in told])
        for (_, k), (_, ks) in zip(paper, told):
            self.assertIn(k, ks)

    def test_papers_of_conditions(self):
        self.check(0, (("name", "is", "ham"),), (None,))
        self.check(0, (("name", "is", "apple"),), (None, 0))
        self.check(0, (("many", "below", 3),), (None, 0))
        self.check(0, (("many", "is", 4),), (None,))
        self.check(0, (("many", "is", 5), ("name", "is", "fig")), (None,))
        self.check(0, (("many", "is", 5), ("name", "is", "zoo"), ("many", "is", 9)), (None, 1, 2))
        self.check(1, (("name", "is", "kiwi"), ("many", "is", 5)), (None,), (None, 1), (None, 0, 1))
        self.check(1, (("many", "is", 25),), (None, 0), (None, 0), (None, 0))
        self.check(1, (("many", "from", 4), ("name", "is", "apple")), (None, 1), (None, 1), (None, 0))
        self.check(1, (("many", "is", 12), ("name", "is", "ham")), (None, 0), (None,), (None, 0, 1))
        self.check(2, (("mark", "is", "y"),), (None, 0), (None, 0), (None, 0))
        self.check(2, (("mark", "is", "x"), ("many", "is", 2)), (None, 1), (None, 1), (None, 1))
        self.check(3, ())
        self.check(3, (("name", "is", "fig"),))
        self.assertEqual(self.none(3), ())
        place, head, where = self.hand.folder(), self.hand.head(), (("many", "below", 3),)
        self.assertEqual(none_paper(place=place, head=head, number=0, where=where), ((self.one[1], 0),))
        self.assertIs(none_holds(place=place, head=head, number=0, where=where, thing=((self.one[1], 0),)), True)

    def test_where_a_row_meets_it(self):
        for number, where in ((0, ()), (0, (("name", "is", "kiwi"),)), (1, (("many", "is", None),)),
                              (1, (("many", "is", 3),)),
                              (1, (("many", "from", 15),)), (2, (("mark", "is", "x"),)),
                              (2, (("mark", "is", "x"), ("name", "is", None)))):
            self.assertIsNone(self.none(number, *where))
            files = [entry[1] for entry in entries_of(self.hand.folder(), self.hand.head(),
                                                      number) if entry[0] == "data"]
            for ks in itertools.product((None, 0, 1), repeat=len(files)):
                self.assertIs(self.none_is_so(number, where, tuple(zip(files, ks))), False)

    def test_by_a_part_alone(self):
        # The span has 14 between 12 and 15, and so has the part of all from 10 on.
        self.check(1, (("many", "is", 14),), (None, 0), (None,), (None, 0))
        entry = self.hand.data(1, (("a", 3), ("a", 33)), rule=2, part=(3,))
        self.hand.rules = (*RULES, ((2, ("rest", 10)),))
        self.hand.commit(self.hand.list(entry), keep=())
        self.check(4, (("many", "is", 14),), (None, 0))
        self.check(4, (("many", "is", 23),), (None,))

    def test_refusals(self):
        where = (("kind", "is", 1),)
        for thing in (*ANYTHING, 4):
            if isinstance(thing, bool) or thing not in (0, 1, 2, 3):
                self.refused(NoCommit, lambda: none_paper(self.hand.folder(), self.hand.head(), thing, 1), number=thing)
                self.assertIs(self.none_is_so(thing, (("many", "is", 4),), ((self.one[1], 0),)), False)
        for thing in (None, [], (1,), (("many", "is", True),), (("many", "over", 1),), (*where, 1),
                      (("many", "is", 4),) * 5):
            self.refused(NoCond, lambda: none_paper(self.hand.folder(), self.hand.head(), 0, thing))
            self.assertIs(self.none_is_so(0, thing, ((self.one[1], None),)), False)
        for number, name in ((0, "kind"), (0, "mark"), (3, "many")):
            self.refused(NoColumn, lambda: self.none(number, ("name", "is", 1), (name, "is", 1), *where), name=name)
            paper = () if number == 3 else ((self.one[1], None),)
            self.assertIs(self.none_is_so(number, ((name, "is", 1),), paper), False)
        self.assertIs(self.none_is_so(0, (("many", "is", 4),), ((self.one[1], None),)), True)

    def test_one_thing_otherwise(self):
        where = (("many", "from", 4), ("name", "is", "apple"))
        paper = self.none(1, *where)
        self.assertEqual([k for _, k in paper], [1, 1, 0])
        for path in paths_of(paper):
            there = at_place(paper, path)
            others = [True, False, -1, 2, LARGE, "", "d99", (), [], {}, [there], (there,)]
            if isinstance(there, tuple):
                others += [list(there), there[:-1], there[1:], (*there, there), there[::-1]]
            for other in others:
                self.assertIs(self.none_is_so(1, where, with_place(paper, path, other)), False, (path, other))
        for order in itertools.permutations(paper):
            self.assertIs(self.none_is_so(1, where, order), order == paper)
        self.assertIs(self.none_is_so(1, where, with_place(paper, (0, 1), None)), True)
        self.assertIs(self.none_is_so(1, where, with_place(paper, (0, 1), 0)), False)

    def test_of_anything(self):
        where = (("many", "below", 3),)
        for thing in ANYTHING:
            self.assertIs(self.none_is_so(0, where, thing), False)
            self.assertIs(self.none_is_so(0, where, (thing,)), False)
            self.assertIs(self.none_is_so(0, where, ((thing, 0),)), False)
            self.assertIs(self.none_is_so(0, where, ((self.one[1], thing),)),
                          thing is None or thing == 0 and thing is not False)
            self.assertIs(self.none_is_so(0, thing, ((self.one[1], None),)), False)
            self.assertIs(self.none_is_so(3, thing, ()), thing == ())


class Folders(Papers):
    def asked(self, place):
        """What papers, checkers and all else that reads a place tell."""
        head, told = self.hand.head(), []
        for number in range(4):
            shape = head[2][head[5][number][6]]
            told.append((rows_of(place, head, number), entries_of(place, head, number),
                         small_ones(place, head, number)))
            for column, worth in itertools.product(shape, (None, 3, 14, "fig", "x", "zoo")):
                where = ((column[1], "is", worth),)
                paper = none_paper(place, head, number, where)
                told.append((plan_of(place, head, number, where), paper, none_holds(place, head, number, where, paper)))
            for row in (*rows_of(place, head, number), ("fig", 9)):
                paper = row_paper(place, head, number, row)
                told.append((paper, row_holds(place, head, number, row, paper)))
            told.append([away(place, head, number, entry[1]) for entry in entries_of(place, head,
                                                                                     number) if entry[0] == "data"])
            told.append([changes_of(place, head, number, other) for other in range(number, 4)])
            for work in (("drop", "ann", 1, number, ((1, "is", "date"),), (), (), (), (), None),
                         ("gather", "ann", 1, number, None, (), (self.one[1],), (), (), None)):
                paper = met(place, head, work)
                told.append((paper, led_holds(place, head, work, paper), clash_holds(place, head, work, paper)))
        return told

    def test_the_same_as_of_a_shelf_in_whatever_order(self):
        files = list(self.hand.files.items())
        asked = self.asked(shelf_of(self.hand.files))
        for order in (files, files[::-1], sorted(files), sorted(files, key=lambda pair: pair[0][::-1])):
            self.assertEqual(self.asked(Folder(tuple(order))), asked)

    def test_other_files_beside_them(self):
        asked = self.asked(self.hand.folder())
        more = (("d90", ("data", 0, 0, (), (("fig", 3),))), ("l91", 7), ("s92", []), ("h93", None))
        self.assertEqual(self.asked(Folder((*more, *self.hand.files.items()))), asked)


if __name__ == "__main__":
    unittest.main()
