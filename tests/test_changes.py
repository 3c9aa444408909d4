"""Promise 34: what changed between two commits, and changes put on rows."""

import itertools
import unittest

from hands import Hand
from openings import opened_by, shelf_of
from refusing import Refusing
from stillfiles.changes import changes_of, put_on
from stillfiles.errors import NoCommit, NoRow
from stillfiles.reading import rows_of
from stillfiles.shapes import read_by
from stillfiles.worths import rising
from stored import commit, data_files, put, store_of
from things import ANYTHING, LARGE

NAME, MANY, MARK = (1, "name", "word", "none"), (2, "many", "small", 0), (3, "mark", "sign", "x")
SHAPES = ((NAME, MANY), (NAME, MANY, MARK), (MARK, NAME))


class Changes(Refusing):
    def setUp(self):
        self.hand = Hand(SHAPES)

    def told(self, one, other):
        return changes_of(self.hand.folder(), self.hand.head(), one, other)

    def opened(self, one, other):
        """The data files that are opened, each once."""
        shelf = shelf_of(self.hand.files)
        names = opened_by(shelf, lambda: changes_of(shelf, self.hand.head(), one, other))
        return tuple([name for name in dict.fromkeys(names) if name[0] == "d"])

    def test_gone_and_come(self):
        hand = self.hand
        one, two = hand.data(0, (("fig", 3), ("apple", 5))), hand.data(1, (("pear", 1), (None, 7), ("date", 2)))
        hand.commit(hand.list(one))
        hand.commit(hand.list(two))
        hand.commit(hand.list(hand.marks(2, two[1], (0,))), keep=hand.lists[1:])
        self.assertEqual(self.told(0, 1), ((), ((None, 7), ("date", 2), ("pear", 1))))
        self.assertEqual(self.told(1, 2), ((("apple", 5), ("fig", 3), ("pear", 1)), ()))
        self.assertEqual(self.told(0, 2), ((("apple", 5), ("fig", 3)), ((None, 7), ("date", 2))))
        self.assertEqual(changes_of(place=hand.folder(), head=hand.head(), one=1, other=1), ((), ()))

    def test_as_often_as_they_are_more(self):
        hand = self.hand
        one = hand.data(0, (("fig", 3), ("fig", 3), ("fig", 3), ("kiwi", 1)))
        two = hand.data(1, (("fig", 3), ("kiwi", 1), ("kiwi", 1), ("kiwi", 1)))
        hand.commit(hand.list(one))
        hand.commit(hand.list(two), keep=())
        hand.commit(hand.list(one), keep=hand.lists)
        self.assertEqual(self.told(0, 1), ((("fig", 3),) * 2, (("kiwi", 1),) * 2))
        self.assertEqual(self.told(1, 2), ((), (("fig", 3),) * 3 + (("kiwi", 1),)))
        self.assertEqual(self.told(0, 2), ((), (("fig", 3),) + (("kiwi", 1),) * 3))

    def test_what_is_gathered_is_no_change(self):
        hand = self.hand
        one, two = hand.data(0, (("fig", 3),)), hand.data(1, (("kiwi", 1),))
        hand.commit(hand.list(one))
        hand.commit(hand.list(two))
        hand.commit(hand.list(hand.data(1, (("kiwi", 1), ("fig", 3)))), keep=(), word="gather")
        self.assertEqual(self.told(1, 2), ((), ()))
        self.assertEqual(self.opened(1, 2), tuple([name for name in hand.files if name[0] == "d"]))

    def test_read_by_the_other_ones_shape(self):
        hand = self.hand
        one, two = hand.data(0, (("fig", 3), ("kiwi", 5))), hand.data(2, (("date", 7, "b"), ("kiwi", 9, "x")), shape=1)
        hand.commit(hand.list(one))
        hand.commit(shape=1, word="reshape")
        hand.commit(hand.list(two), shape=1)
        hand.commit(shape=2, word="reshape")
        hand.commit(hand.list(hand.marks(4, one[1], (1,))), shape=2)
        hand.commit(keep=(), shape=0)
        self.assertEqual(self.told(0, 1), ((), ()))
        self.assertEqual(self.told(0, 2), ((), (("date", 7, "b"), ("kiwi", 9, "x"))))
        self.assertEqual(self.told(0, 3), ((), (("b", "date"), ("x", "kiwi"))))
        # By this shape a row that went and one that came are the same.
        self.assertEqual(self.told(0, 4), ((), (("b", "date"),)))
        self.assertEqual(self.told(3, 4), ((("x", "kiwi"),), ()))
        self.assertEqual(self.told(4, 5), ((("date", 7), ("fig", 3), ("kiwi", 9)), ()))

    def test_which_data_files_are_opened(self):
        hand = self.hand
        rows = (("fig", 3), ("kiwi", 5))
        datas = [hand.data(order, rows) for order in (0, 1, 2, 3)]
        lists = [hand.list(entry) for entry in datas]
        names = tuple([entry[1] for entry in datas])
        hand.commit(*lists)
        hand.commit(keep=lists[::-1])
        self.assertEqual(self.opened(0, 1), ())
        # Marks of one of them come, go, are others for the same rows.
        marks = [hand.list(hand.marks(1, names[2], (0,))) for _ in range(2)]
        hand.commit(marks[0], keep=lists)
        hand.commit(marks[1], keep=lists)
        hand.commit(marks[0], keep=lists[::-1])
        self.assertEqual([self.opened(0, 2), self.opened(2, 3), self.opened(2, 4)], [names[2:3], names[2:3], ()])
        self.assertEqual([self.told(0, 2), self.told(2, 3)], [((("fig", 3),), ()), ((), ())])
        # One stands there with another order, one doesn't.
        later = ("data", names[1], 2, *datas[1][3:])
        hand.commit(hand.list(later), keep=(lists[0], lists[2]))
        self.assertEqual([self.opened(0, 5), self.opened(5, 5)], [(names[1], names[3]), ()])
        self.assertEqual(self.told(0, 5), ((("fig", 3), ("kiwi", 5)), ()))

    def test_keys_of_greater_order(self):
        hand = self.hand
        datas = [hand.data(order, (("fig", 3), ("kiwi", 5))) for order in (0, 1, 2, 3)]
        names = tuple([entry[1] for entry in datas])
        lists = [hand.list(entry) for entry in datas]
        hand.commit(*lists)
        key, other = hand.list(hand.key(2, 2, 9)), hand.list(hand.key(2, 2, 9))
        hand.commit(key, keep=lists)
        hand.commit(other, key, keep=lists)
        hand.commit(other, keep=lists)
        hand.commit(key, keep=lists)
        # Of order 2 it is greater than those of the first two, whether it takes rows of theirs or not.
        for one, other in ((0, 1), (1, 2), (1, 3), (2, 3), (3, 4)):
            self.assertEqual(self.opened(one, other), names[:2], (one, other))
            self.assertEqual(self.told(one, other), ((), ()))
        self.assertEqual(self.opened(1, 4), ())
        hand.commit(hand.list(hand.key(1, 1, "fig")), keep=hand.lists)
        self.assertEqual(self.opened(4, 5), names[:1])
        self.assertEqual(self.told(4, 5), ((("fig", 3),), ()))
        hand.commit(hand.list(hand.key(0, 1, "kiwi")), keep=hand.lists)
        self.assertEqual((self.opened(5, 6), self.told(5, 6)), ((), ((), ())))

    def test_no_commit(self):
        for number in (1, 2, 4):
            self.hand.commit(number=number)
        for thing in (*ANYTHING, 3, 5):
            if thing is True or thing not in (1, 2, 4):
                self.refused(NoCommit, lambda: self.told(thing, 1), number=thing)
                self.refused(NoCommit, lambda: self.told(2, thing), number=thing)
                self.refused(NoCommit, lambda: self.told(thing, thing), number=thing)
                self.refused(NoCommit, lambda: self.told(thing, LARGE), number=thing)
        self.refused(NoCommit, lambda: self.told(2, 1), number=1)
        self.refused(NoCommit, lambda: self.told(4, 2), number=2)
        self.assertEqual(self.told(1, 4), ((), ()))

    def test_put_on_the_first_it_is_the_second(self):
        store = store_of()
        put(store, ("fig", 3), ("fig", 3), ("kiwi", 5), (None, None))
        put(store, ("fig", 3), ("date", 9))
        commit(store, lambda zed: zed.drop((("name", "is", "kiwi"),)))
        commit(store, lambda zed: zed.change((("many", "is", 3),), "many", 4))
        commit(store, lambda zed: zed.reshape((("add", "mark", "sign", "q"), ("out", "many"))))
        commit(store, lambda zed: zed.key("name", None))
        put(store, ("date", "q"), ("date", None))
        commit(store, lambda zed: zed.gather(tuple(data_files(store))))
        commit(store, lambda zed: zed.back(2))
        head, place = store.head("fruit"), store.shelf()
        for one, other in itertools.combinations_with_replacement(range(10), 2):
            shapes = [head[2][head[5][number][6]] for number in (one, other)]
            rows = tuple([read_by(*shapes, row) for row in rows_of(place, head, one)])
            told = changes_of(place, head, one, other)
            self.assertEqual(put_on(rows, told), rows_of(place, head, other))
            self.assertEqual([rising(side) for side in told], list(told))
            self.assertEqual(set(told[0]) & set(told[1]), set())


class PutOn(Refusing):
    def test_in_any_order(self):
        rows, gone, come = (("b", 1), ("a", 2), ("b", 1)), (("b", 1), ("a", 2)), (("c", None), ("a", 9))
        for mixed in itertools.product(*[list(itertools.permutations(side)) for side in (rows, gone, come)]):
            self.assertEqual(put_on(mixed[0], mixed[1:]), (("a", 9), ("b", 1), ("c", None)))
        self.assertEqual(put_on(rows=rows, changes=((), ())), (("a", 2), ("b", 1), ("b", 1)))
        self.assertEqual(put_on((), ((), come)), (("a", 9), ("c", None)))
        self.assertEqual(put_on(rows, (rows, ())), ())
        self.assertEqual(put_on((), ((), ())), ())

    def test_worths_rise_as_they_stand(self):
        rows = (("b",), (7,), (None,), ("",), (-3,), (10,))
        self.assertEqual(put_on(rows, ((), ())), ((None,), (-3,), (7,), (10,), ("",), ("b",)))

    def test_no_row(self):
        rows = (("a", 1), ("b", 2), ("a", 1))
        for gone, place in (((("c", 3),), 0), ((("a", 1), ("b", 1)), 1), ((("b", 2), ("a", 1), ("b", 2)), 2),
                            ((("a", 1),) * 3, 2),
                            ((("a", 1), ("c", 3), ("d", 4)), 1), ((("a",),), 0), ((("a", 1, 1),), 0), (((),), 0),
                            ((("b", 2), ("a", True)), 1)):
            for mixed in (rows, rows[::-1]):
                self.refused(NoRow, lambda: put_on(mixed, (gone, ())), place=place)
                # What comes is there behind it, so it can't go.
                self.refused(NoRow, lambda: put_on(mixed, (gone, gone)), place=place)
        self.refused(NoRow, lambda: put_on((), ((("a", 1),), ())), place=0)

    def test_forty_each(self):
        rows = tuple([(k % 7, "a") for k in range(40)])
        come = tuple([(None, "b"), (-k, None)][k % 2] for k in range(40))
        self.assertEqual(put_on(rows, (rows[::-1], come)), rising(come))


if __name__ == "__main__":
    unittest.main()
