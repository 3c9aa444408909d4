"""Promise 29, its end: small ones, data files of one rule and part that may be gathered."""

import unittest

from hands import Hand
from refusing import Refusing
from stillfiles.errors import NoCommit
from stillfiles.gathering import small_ones
from stored import commit, data_files, put, store_of
from things import ANYTHING

SHAPES = (((1, "name", "word", "none"), (2, "many", "small", 0)), ((1, "name", "word", "none"),))
RULES = ((), ((2, ("range", 10)),), ((2, ("rest", 10)),))


class SmallOnes(Refusing):
    def setUp(self):
        self.hand = Hand(SHAPES, RULES)

    def data(self, many, rule=0, part=(), shape=0):
        """An entry of so many rows that are alike."""
        row = ("a",) if shape == 1 else ("a", part[0] if part else 1)
        return self.hand.data(0, (row,) * many, shape=shape, rule=rule, part=part)

    def told(self, *entries, **more):
        self.hand.commit(*[self.hand.list(entry) for entry in entries], keep=())
        return small_ones(self.hand.folder(), self.hand.head(), len(self.hand.commits) - 1, **more)

    def test_rules_and_parts_mixed(self):
        a, b, c = self.data(1), self.data(2, 1, (0,)), self.data(1, 2, (1,))
        d, e, f, g = self.data(3, 1, (0,)), self.data(2), self.data(1, 2, (1,)), self.data(1, 1, (1,))
        told = self.told(a, b, c, d, e, f, g)
        self.assertEqual(told, ((a[1], e[1]), (b[1], d[1]), (c[1], f[1])))
        self.assertEqual(self.told(g, f, e, d, c, b, a), ((f[1], c[1]), (e[1], a[1]), (d[1], b[1])))
        # A part alone isn't enough: it is another one by another rule.
        self.assertEqual(self.told(self.data(1, 1, (1,)), self.data(1, 2, (1,))), ())

    def test_shapes_may_be_unlike(self):
        a, b = self.data(1), self.data(1, shape=1)
        self.assertEqual(self.told(a, b), ((a[1], b[1]),))

    def test_a_single_one(self):
        self.assertEqual(self.told(self.data(1)), ())
        self.assertEqual(self.told(self.data(1), self.data(8)), ())
        self.assertEqual(self.told(), ())

    def test_below(self):
        entries = [self.data(many) for many in (7, 8, 9, 1, 7)]
        names = [entry[1] for entry in entries]
        self.assertEqual(self.told(*entries), ((names[0], names[3], names[4]),))
        self.assertEqual(self.told(*entries, below=8), ((names[0], names[3], names[4]),))
        self.assertEqual(self.told(*entries, below=9), ((names[0], names[1], names[3], names[4]),))
        self.assertEqual(self.told(*entries, below=10), (tuple(names),))
        self.assertEqual(self.told(*entries, below=7), ())
        self.assertEqual(self.told(*entries, below=1), ())

    def test_many_counts_rows_that_are_away_too(self):
        a, b = self.data(3), self.data(3)
        marks, key = self.hand.marks(0, a[1], (0, 1)), self.hand.key(1, 2, 1)
        self.assertEqual(self.told(a, marks, b, key, below=3), ())
        self.assertEqual(self.told(key, a, marks, b, below=4), ((a[1], b[1]),))

    def test_of_a_commit(self):
        a, b, c = self.data(1), self.data(1), self.data(1)
        self.told(a, b)
        self.told(c, b, a)
        place, head = self.hand.folder(), self.hand.head()
        self.assertEqual(small_ones(place=place, head=head, number=0, below=5), ((a[1], b[1]),))
        self.assertEqual(small_ones(place, head, 1), ((c[1], b[1], a[1]),))

    def test_no_commit(self):
        self.told(self.data(1), self.data(1))
        for number in ANYTHING:
            if number is False or number != 0:
                self.refused(NoCommit, lambda: small_ones(self.hand.folder(), self.hand.head(), number), number=number)

    def test_they_can_be_gathered(self):
        store = store_of(rule=(("many", ("range", 10)),))
        for many in (1, 11, 2, 12, 3, 25):
            put(store, ("fig", many))
        files = data_files(store)
        told = small_ones(store.shelf(), store.head("fruit"), 6)
        self.assertEqual(told, ((files[0], files[2], files[4]), (files[1], files[3])))
        for group in told:
            commit(store, lambda zed: zed.gather(group))
        self.assertEqual(small_ones(store.shelf(), store.head("fruit"), 8), ())
        self.assertEqual(len(data_files(store)), 3)


if __name__ == "__main__":
    unittest.main()
