"""Promises 17 and 18: a commit, its entries, which rows are away, rows told."""

import unittest

from hands import Hand
from stillfiles.errors import NoColumn, NoCommit, NoCond
from stillfiles.reading import away, commit_of, entries_of, rows_of
from stillfiles.shelves import Folder
from things import ANYTHING

NAME, MANY = (1, "name", "word", "none"), (2, "many", "small", 0)
MARK, TITLE = (3, "mark", "sign", "x"), (1, "title", "word", "none")
SHAPES = ((NAME, MANY), (NAME, MANY, MARK), (MARK, TITLE))
FRUIT = (("apple", 3), ("pear", 12), (None, None), ("fig", 3))


def small_hand():
    """A table with one data file of four rows, put by commit 1."""
    hand = Hand(SHAPES)
    hand.commit(word="make")
    entry = hand.data(1, FRUIT)
    hand.commit(hand.list(entry))
    return hand, entry[1]


class Commits(unittest.TestCase):
    def setUp(self):
        self.hand = Hand(SHAPES)
        for number in (2, 3, 7):
            self.hand.commit(number=number)
        self.head = self.hand.head()

    def test_told(self):
        self.assertEqual(commit_of(self.head, 3), (3, "put", None, 0, 0, "s2", 0, 0))
        self.assertEqual(commit_of(head=self.head, number=7), (7, "put", None, 0, 0, "s3", 0, 0))

    def test_not_told(self):
        for number in (0, 1, 4, 6, 8, -1, "s1", *[thing for thing in ANYTHING if thing not in (2, 7)]):
            with self.assertRaises(NoCommit) as caught:
                commit_of(self.head, number)
            self.assertIs(caught.exception.number, number)

    def test_a_truth_is_no_number(self):
        hand = Hand(SHAPES)
        hand.commit()
        hand.commit()
        for number in (True, False):
            for call in (lambda: commit_of(hand.head(), number), lambda: entries_of(hand.folder(), hand.head(), number),
                         lambda: away(hand.folder(), hand.head(), number, "d1"),
                         lambda: rows_of(hand.folder(), hand.head(), number)):
                with self.assertRaises(NoCommit) as caught:
                    call()
                self.assertIs(caught.exception.number, number)


class Entries(unittest.TestCase):
    def test_in_the_order_of_lists(self):
        hand = Hand(SHAPES)
        hand.commit(word="make")
        one, two, three = hand.data(1, (("a", 1),)), hand.data(1, (("b", 2),)), hand.data(2, (("c", 3),))
        marks, key = hand.marks(2, one[1], (0,)), hand.key(3, 1, "c")
        later, first = hand.list(two, one), hand.list(marks, three)
        hand.commit(first)
        hand.commit(later, hand.list(key), keep=())
        hand.commit(first, keep=hand.lists)
        place, head = hand.folder(), hand.head()
        self.assertEqual(entries_of(place, head, 0), ())
        self.assertEqual(entries_of(place, head, 1), (marks, three))
        self.assertEqual(entries_of(place, head, 2), (two, one, key))
        self.assertEqual(entries_of(place=place, head=head, number=3), (two, one, key, marks, three))

    def test_no_commit(self):
        hand, _ = small_hand()
        for number in (2, *[thing for thing in ANYTHING if thing not in (0, 1)]):
            with self.assertRaises(NoCommit) as caught:
                entries_of(hand.folder(), hand.head(), number)
            self.assertIs(caught.exception.number, number)


class Away(unittest.TestCase):
    def away_with(self, *entries):
        """What is away of the small table's file with these entries more."""
        self.hand.commit(self.hand.list(*entries))
        number = len(self.hand.commits) - 1
        return away(self.hand.folder(), self.hand.head(), number, self.file)

    def setUp(self):
        self.hand, self.file = small_hand()

    def test_nothing(self):
        self.assertEqual(away(self.hand.folder(), self.hand.head(), 1, self.file), ())
        self.assertEqual(away(place=self.hand.folder(), head=self.hand.head(), number=1, file=self.file), ())

    def test_by_marks(self):
        self.assertEqual(self.away_with(self.hand.marks(2, self.file, (1, 3))), (1, 3))
        self.assertEqual(self.away_with(self.hand.marks(2, self.file, (0, 1))), (0, 1, 3))

    def test_marks_for_another_file(self):
        other = self.hand.data(2, (("fig", 1),))
        self.assertEqual(self.away_with(other, self.hand.marks(2, other[1], (0,))), ())
        self.assertEqual(away(self.hand.folder(), self.hand.head(), 2, other[1]), (0,))

    def test_by_a_key_of_greater_order(self):
        self.assertEqual(self.away_with(self.hand.key(2, 2, 3)), (0, 3))
        self.assertEqual(self.away_with(self.hand.key(2, 1, None)), (0, 2, 3))

    def test_not_by_a_key_of_the_same_order_or_a_lesser_one(self):
        self.assertEqual(self.away_with(self.hand.key(1, 2, 3), self.hand.key(0, 1, "pear")), ())

    def test_by_a_key_of_a_column_that_the_file_has_not(self):
        self.assertEqual(self.away_with(self.hand.key(2, 3, "a")), ())
        self.assertEqual(self.away_with(self.hand.key(2, 3, None)), ())
        self.assertEqual(self.away_with(self.hand.key(2, 3, "x")), (0, 1, 2, 3))

    def test_a_worth_of_its_own_goes_ahead_of_the_fill(self):
        self.assertEqual(self.away_with(self.hand.key(2, 2, 0)), ())
        self.assertEqual(self.away_with(self.hand.key(2, 1, "none")), ())
        self.assertEqual(self.away_with(self.hand.key(2, 2, None)), (2,))

    def test_a_column_that_is_out_of_the_present_shape(self):
        self.hand.commit(self.hand.list(self.hand.key(2, 2, 12)), word="key", shape=2)
        self.assertEqual(away(self.hand.folder(), self.hand.head(), 2, self.file), (1,))

    def test_several_keys_and_marks(self):
        entries = (self.hand.marks(2, self.file, (2,)), self.hand.key(2, 1, "pear"), self.hand.key(0, 1, "apple"),
                   self.hand.key(3, 1, "fig"), self.hand.marks(3, self.file, (1, 2)))
        self.assertEqual(self.away_with(*entries), (1, 2, 3))

    def test_no_commit_goes_ahead_of_whatever_file(self):
        for file in (self.file, "d999", "h1", *ANYTHING):
            for number in (9, True, None, [], "1"):
                with self.assertRaises(NoCommit) as caught:
                    away(self.hand.folder(), self.hand.head(), number, file)
                self.assertIs(caught.exception.number, number)


class Rows(unittest.TestCase):
    def setUp(self):
        self.hand = Hand(SHAPES)
        self.hand.commit(word="make")
        one = self.hand.data(1, FRUIT)
        self.hand.commit(self.hand.list(one))
        two = self.hand.data(2, (("plum", 15, "a"), ("fig", -3, None)), shape=1)
        self.hand.commit(self.hand.list(two, self.hand.marks(2, one[1], (1,))), shape=1)
        self.hand.commit(self.hand.list(self.hand.key(3, 1, "fig")), word="key", shape=2)
        self.head = self.hand.head()
        self.place = self.hand.folder()

    def rows(self, number, **more):
        return rows_of(self.place, self.head, number, **more)

    def test_by_the_commits_shape(self):
        self.assertEqual(self.rows(0), ())
        self.assertEqual(self.rows(1), ((None, None), ("apple", 3), ("fig", 3), ("pear", 12)))
        self.assertEqual(self.rows(2), ((None, None, "x"), ("apple", 3, "x"), ("fig", -3, None), ("fig", 3, "x"),
                                        ("plum", 15, "a")))
        self.assertEqual(rows_of(place=self.place, head=self.head, number=3),
                         (("a", "plum"), ("x", None), ("x", "apple")))

    def test_each_as_often_as_it_stands(self):
        hand = Hand(SHAPES)
        hand.commit(hand.list(hand.data(0, (("a", 1), ("b", 2), ("a", 1))), hand.data(0, (("a", 1),))))
        self.assertEqual(rows_of(hand.folder(), hand.head(), 0), (("a", 1), ("a", 1), ("a", 1), ("b", 2)))
        self.assertEqual(rows_of(hand.folder(), hand.head(), 0, names=()), ((), (), (), ()))

    def test_with_a_condition(self):
        self.assertEqual(self.rows(2, where=(("many", "from", 3),)),
                         (("apple", 3, "x"), ("fig", 3, "x"), ("plum", 15, "a")))
        self.assertEqual(self.rows(2, where=(("many", "from", 3), ("name", "below", "c"))), (("apple", 3, "x"),))
        self.assertEqual(self.rows(2, where=(("many", "is", None),)), ((None, None, "x"),))
        self.assertEqual(self.rows(2, where=(("mark", "is", "x"),)),
                         ((None, None, "x"), ("apple", 3, "x"), ("fig", 3, "x")))
        self.assertEqual(self.rows(3, where=(("title", "is", "fig"),)), ())

    def test_with_names(self):
        self.assertEqual(self.rows(1, names=("many", "name")),
                         ((None, None), (3, "apple"), (3, "fig"), (12, "pear")))
        self.assertEqual(self.rows(2, names=("many",)), ((None,), (-3,), (3,), (3,), (15,)))
        self.assertEqual(self.rows(2, names=()), ((),) * 5)
        self.assertEqual(self.rows(2, names=("name", "many", "mark")), self.rows(2))
        self.assertEqual(self.rows(2, names=("mark",), where=(("many", "below", 3),)), ((None,),))

    def test_by_a_function_of_the_row_as_it_is_told(self):
        self.assertEqual(self.rows(1, names=("many",), where=(("many", "from", 0),), by=lambda row: -row[0]),
                         ((12,), (3,), (3,)))
        self.assertEqual(self.rows(1, by=lambda row: 0 if row[1] == 3 else -1),
                         ((None, None), ("pear", 12), ("apple", 3), ("fig", 3)))
        self.assertEqual(self.rows(1, by=lambda row: str(row[1])[:1]),
                         (("pear", 12), ("apple", 3), ("fig", 3), (None, None)))
        seen = []
        self.rows(2, names=("mark", "name"), by=lambda row: seen.append(row) or 0)
        self.assertEqual(sorted(seen, key=repr), sorted(self.rows(2, names=("mark", "name")), key=repr))

    def test_refused(self):
        for thing in ANYTHING:
            if thing not in (0, 1, 2):
                with self.assertRaises(NoCommit) as caught:
                    self.rows(thing, where=7, names=("none",))
                self.assertIs(caught.exception.number, thing)
            if thing != ():
                self.assertRaises(NoCond, self.rows, 1, where=thing, names=("none",))
        for where, names, name in (((("mark", "is", 1), ("none", "is", 1)), ("nay",), "mark"), ((), ("many", "mark"), "mark"),
                                   ((("none", "is", 1),), (), "none"), ((), ("title",), "title")):
            with self.assertRaises(NoColumn) as caught:
                self.rows(1, where=where, names=names)
            self.assertEqual(caught.exception.name, name)

    def test_refused_ahead_of_what_is_opened(self):
        for more in ({"where": 1}, {"where": (("none", "is", 1),)}, {"names": ("none",)}):
            with self.assertRaises((NoCond, NoColumn)):
                rows_of(Folder(), self.head, 1, **more)

    def test_the_same_again(self):
        self.assertEqual(self.rows(3), self.rows(3))
        self.assertEqual(self.rows(1), self.rows(1))


if __name__ == "__main__":
    unittest.main()
