"""Promise 19: plans, and what is opened."""

import unittest

from hands import Hand
from openings import opened_by, shelf_of
from stillfiles.errors import NoColumn, NoCommit, NoCond
from stillfiles.planning import plan_of
from stillfiles.reading import rows_of
from things import ANYTHING

NAME, MANY, MARK = (1, "name", "word", "none"), (2, "many", "small", 0), (3, "mark", "sign", "x")
SHAPES = ((NAME, MANY), (NAME, MANY, MARK), (MARK, (1, "title", "word", "none")))
RULES = ((), ((2, ("range", 10)),), ((3, ("same",)), (1, ("first", 1))))


class Planned(unittest.TestCase):
    def plan(self, *where, number=None):
        number = len(self.hand.commits) - 1 if number is None else number
        return plan_of(self.hand.folder(), self.hand.head(), number, where)


class Files(Planned):
    def setUp(self):
        """Files in one list with a key, so that the list is never left out."""
        self.hand = Hand(SHAPES, RULES)
        self.one = self.hand.data(1, (("apple", 3), ("fig", None)))
        self.two = self.hand.data(1, (("plum", 15), ("kiwi", 12)), rule=1, part=(1,))
        self.three = self.hand.data(1, ((None, 7, "a"), (None, 4, "a")), shape=1)
        self.hand.commit(self.hand.list(self.one, self.two, self.three, self.hand.key(0, 1, None)), shape=1)
        self.files = (self.one[1], self.two[1], self.three[1])

    def left(self, *where):
        """Of each data file the number of the test by which it is left out, None of a planned one."""
        files, left = self.plan(*where)
        bars = dict(left)
        self.assertEqual(tuple([file for file in self.files if file not in bars]), files)
        self.assertEqual(len(bars), len(left))
        return tuple([bars.get(file) for file in self.files])

    def test_all_without_tests(self):
        self.assertEqual(self.plan(), (self.files, ()))

    def test_by_span(self):
        self.assertEqual(self.left(("many", "from", 12)), (0, None, 0))
        self.assertEqual(self.left(("many", "is", None)), (None, 0, 0))
        self.assertEqual(self.left(("many", "below", 4)), (None, 0, 0))
        self.assertEqual(self.left(("name", "from", "")), (None, None, 0))
        self.assertEqual(self.left(("name", "is", "g")), (0, 0, 0))
        self.assertEqual(self.left(("name", "is", None)), (0, 0, None))
        self.assertEqual(self.left(("many", "from", "a")), (0, 0, 0))

    def test_by_part(self):
        rules = ((), ((2, ("range", 10)),), ((2, ("rest", 10)),), ((3, ("same",)), (1, ("first", 1))))
        hand = self.hand = Hand(SHAPES, rules)
        ranged = hand.data(0, (("ab", 12), ("ad", 18)), rule=1, part=(1,))
        rest = hand.data(0, (("ab", 11), ("ad", 21)), rule=2, part=(1,))
        first = hand.data(0, (("ab", 11, "x"), ("bd", 21, "x")), shape=1)
        named = hand.data(0, (("ab", 11, "x"), ("ad", 21, "x")), shape=1, rule=3, part=("x", "a"))
        hand.commit(hand.list(ranged, rest, first, named, hand.key(0, 1, None)), shape=1)
        self.files = tuple([entry[1] for entry in (ranged, rest, first, named)])
        self.assertEqual(self.left(("many", "is", 15)), (None, 0, None, None))
        self.assertEqual(self.left(("many", "is", 16), ("many", "is", 11)), (1, 0, None, None))
        self.assertEqual(self.left(("many", "from", 15)), (None, None, None, None))
        self.assertEqual(self.left(("name", "is", "ac")), (None, None, None, None))
        self.assertEqual(self.left(("name", "is", "b")), (0, 0, None, 0))
        self.assertEqual(self.left(("name", "is", "b"), ("name", "is", "ac")), (0, 0, None, 0))

    def test_by_part_where_the_span_may_meet(self):
        rules = ((), ((1, ("first", 1)),), ((2, ("same",)),), ((2, ("range", 5)), (1, ("first", 2))))
        hand = self.hand = Hand(SHAPES, rules)
        entries = [hand.data(0, (("ab", 7), ("az", 7)), rule=1, part=("a",)),
                   hand.data(0, (("ab", 7), ("az", 7)), rule=2, part=(7,)),
                   hand.data(0, (("aba", 6), ("abz", 9)), rule=3, part=(1, "ab")),
                   hand.data(0, ((None, None), ("k", None)), rule=2, part=(None,))]
        hand.commit(hand.list(*entries, hand.key(0, 1, None)))
        self.files = tuple([entry[1] for entry in entries])
        self.assertEqual(self.left(("name", "is", "ac")), (None, None, 0, 0))
        self.assertEqual(self.left(("name", "is", "abc")), (None, None, None, 0))
        self.assertEqual(self.left(("many", "is", None), ("name", "is", None)), (0, 0, 0, None))
        self.assertEqual(self.left(("many", "is", 8)), (0, 0, None, 0))

    def test_by_a_fill(self):
        self.assertEqual(self.left(("mark", "is", "x")), (None, None, 0))
        self.assertEqual(self.left(("mark", "is", "a")), (0, 0, None))
        self.assertEqual(self.left(("mark", "below", "b")), (0, 0, None))
        self.assertEqual(self.left(("mark", "is", None)), (0, 0, 0))

    def test_the_number_of_the_first_test(self):
        self.assertEqual(self.left(("many", "from", 3), ("mark", "is", "x"), ("name", "below", "b")), (None, 2, 1))
        self.assertEqual(self.left(("name", "from", ""), ("many", "is", 2), ("many", "is", 3)), (1, 1, 0))
        self.assertEqual(self.left(*[("many", "below", 14)] * 3, ("many", "from", 12)), (3, None, 3))

    def test_in_the_order_of_entries(self):
        files, left = self.plan(("many", "from", 4))
        self.assertEqual((files, left), ((self.two[1], self.three[1]), ((self.one[1], 0),)))
        self.assertEqual(self.plan(("many", "is", 99)), ((), tuple([(file, 0) for file in self.files])))

    def test_of_elder_commits_by_their_shape(self):
        self.hand.commit(shape=2, number=5)
        self.assertEqual(self.plan(("title", "is", "fig"), number=5)[0], (self.one[1],))
        self.assertRaises(NoColumn, self.plan, ("many", "is", 3), number=5)


class Lists(Planned):
    def setUp(self):
        self.hand = Hand(SHAPES, RULES)
        self.one = self.hand.data(1, (("apple", 3),))
        self.two = self.hand.data(1, (("plum", None), ("kiwi", 12)))
        self.three = self.hand.data(1, (("date", 20, "a"),), shape=1)

    def made(self, *lists, shape=1):
        rows = [self.hand.list(*entries) for entries in lists]
        self.hand.commit(*rows, shape=shape)
        return [row[0] for row in rows]

    def test_a_whole_span(self):
        list_one, list_two = self.made((self.one, self.two), (self.three,))
        self.assertEqual(self.plan(("many", "from", 13)), ((self.three[1],), ((list_one, 0),)))
        self.assertEqual(self.plan(("many", "below", 4)), ((self.one[1],), ((self.two[1], 0), (list_two, 0))))
        self.assertEqual(self.plan(("name", "from", ""), ("many", "is", None)),
                         ((self.two[1],), ((self.one[1], 1), (list_two, 1))))
        self.assertEqual(self.plan(("many", "is", 99)), ((), ((list_one, 0), (list_two, 0))))

    def test_all_lack_the_column(self):
        list_one, list_two = self.made((self.one, self.two), (self.three,))
        self.assertEqual(self.plan(("mark", "is", "x")), ((self.one[1], self.two[1]), ((list_two, 0),)))
        self.assertEqual(self.plan(("mark", "is", "a")), ((self.three[1],), ((list_one, 0),)))

    def test_some_lack_the_column(self):
        lists = self.made((self.one, self.three))
        self.assertEqual(self.plan(("mark", "is", "x")), ((self.one[1],), ((self.three[1], 0),)))
        self.assertEqual(self.plan(("mark", "is", "a")), ((self.three[1],), ((self.one[1], 0),)))
        self.assertEqual(self.plan(("mark", "is", "b")), ((), ((lists[0], 0),)))

    def test_some_lack_it_and_none_of_those_that_have_it_is_met(self):
        hand = self.hand
        four = hand.data(2, (("pear", 1, None),), shape=1)
        lists = self.made((four,))
        self.assertEqual(self.plan(("mark", "is", "x")), ((), ((lists[0], 0),)))
        self.assertEqual(self.plan(("mark", "is", None)), ((four[1],), ()))

    def test_not_where_it_has_others(self):
        marks = self.hand.marks(1, self.one[1], (0,))
        self.made((self.one, marks), (self.hand.key(2, 1, "z"),))
        self.assertEqual(self.plan(("many", "is", 99)), ((), ((self.one[1], 0),)))

    def test_not_where_it_has_no_data_entries(self):
        key = self.hand.key(2, 1, "z")
        lists = self.made((key,), (self.one,))
        self.assertEqual(self.plan(("many", "is", 99)), ((), ((lists[1], 0),)))

    def test_the_first_test_of_a_list(self):
        lists = self.made((self.one, self.two))
        where = (("name", "from", "a"), ("many", "is", 3), ("mark", "is", "a"), ("many", "is", 99))
        self.assertEqual(self.plan(*where), ((), ((lists[0], 2),)))
        # No file of it meets the first two at once, but by each of these the list may.
        self.assertEqual(self.plan(("name", "from", "k"), ("many", "is", 3)),
                         ((), ((self.one[1], 0), (self.two[1], 1))))

    def test_refused(self):
        self.made((self.one,))
        folder, head = self.hand.folder(), self.hand.head()
        for thing in ANYTHING:
            if thing != 0 or thing is False:
                with self.assertRaises(NoCommit) as caught:
                    plan_of(folder, head, thing, 7)
                self.assertIs(caught.exception.number, thing)
            if thing != ():
                self.assertRaises(NoCond, plan_of, folder, head, 0, thing)
        with self.assertRaises(NoColumn) as caught:
            plan_of(place=folder, head=head, number=0, where=(("many", "is", 1), ("title", "is", 1), ("nay", "is", 1)))
        self.assertEqual(caught.exception.name, "title")


class Opened(Planned):
    def setUp(self):
        hand = self.hand = Hand(SHAPES, RULES)
        self.one, self.two = hand.data(1, (("apple", 3),)), hand.data(1, (("plum", 12),))
        self.three = hand.data(2, (("fig", 15), ("date", 16)))
        self.marks = [hand.marks(2, self.one[1], (0,)), hand.marks(3, self.three[1], (0,)),
                      hand.marks(4, self.three[1], (1,)), hand.marks(4, self.two[1], (0,))]
        key = hand.key(4, 1, "none")
        self.rows = [hand.list(self.one, self.two), hand.list(self.three), hand.list(*self.marks, key)]
        hand.commit(*self.rows)
        self.lists = [row[0] for row in self.rows]

    def opened(self, *where, plan=False):
        shelf, head = shelf_of(self.hand.files), self.hand.head()
        if plan:
            return opened_by(shelf, lambda: plan_of(shelf, head, 0, where))
        return opened_by(shelf, lambda: rows_of(shelf, head, 0, where=where))

    def in_order(self, *names):
        return tuple(sorted(names, key=lambda name: int(name[1:])))

    def test_a_plan(self):
        top = self.hand.commits[0][5]
        self.assertEqual(self.opened(plan=True), self.in_order(top, *self.lists))
        self.assertEqual(self.opened(("many", "from", 13), plan=True), self.in_order(top, *self.lists[1:]))
        self.assertEqual(self.opened(("many", "from", 99), plan=True), self.in_order(top, self.lists[2]))

    def test_told_rows(self):
        top = self.hand.commits[0][5]
        marks = [entry[1] for entry in self.marks]
        files = [self.one[1], self.two[1], self.three[1]]
        self.assertEqual(self.opened(), self.in_order(top, *self.lists, *files, *marks))
        self.assertEqual(self.opened(("many", "from", 13)),
                         self.in_order(top, *self.lists[1:], self.three[1], *marks[1:3]))
        self.assertEqual(self.opened(("many", "is", 3)),
                         self.in_order(top, self.lists[0], self.lists[2], self.one[1], marks[0]))
        self.assertEqual(self.opened(("many", "is", 7)), self.in_order(top, self.lists[0], self.lists[2]))
        self.assertEqual(self.opened(("many", "is", 99)), self.in_order(top, self.lists[2]))

    def test_anew_whenever_it_is_asked(self):
        shelf, head = shelf_of(self.hand.files), self.hand.head()
        once = opened_by(shelf, lambda: rows_of(shelf, head, 0))
        self.assertEqual(opened_by(shelf, lambda: rows_of(shelf, head, 0)), once)
        again = opened_by(shelf, lambda: plan_of(shelf, head, 0, ()))
        self.assertEqual(opened_by(shelf, lambda: plan_of(shelf, head, 0, ())), again)

    def test_a_list_that_two_rows_name_by_hand(self):
        self.hand.commit(self.rows[0], self.rows[1], self.rows[1])
        shelf, head = shelf_of(self.hand.files), self.hand.head()
        number = len(self.hand.commits) - 1
        lists = [*self.lists, *self.lists[:2], self.lists[1]]
        self.assertEqual(opened_by(shelf, lambda: plan_of(shelf, head, number, ())),
                         self.in_order(self.hand.commits[number][5], *lists))
        self.assertEqual(plan_of(shelf, head, number, (("many", "from", 13),)),
                         ((self.three[1],) * 3, ((self.lists[0], 0), (self.lists[0], 0))))
        twice = (self.three[1], self.marks[1][1], self.marks[2][1]) * 3
        self.assertEqual(opened_by(shelf, lambda: rows_of(shelf, head, number, where=(("many", "from", 13),))),
                         self.in_order(self.hand.commits[number][5], *self.lists[1:], *[self.lists[1]] * 2, *twice))

    def test_an_entry_that_names_the_file_of_another_one_by_hand(self):
        hand = self.hand = Hand(SHAPES, RULES)
        one = hand.data(1, (("apple", 3), ("fig", 5)))
        marks = hand.marks(3, one[1], (1,))
        hand.commit(hand.list(one, marks), hand.list((*one[:2], 4, *one[3:]), hand.key(3, 1, "apple")))
        shelf, head = shelf_of(hand.files), hand.head()
        rows = opened_by(shelf, lambda: self.assertEqual(rows_of(shelf, head, 0), (("apple", 3),)))
        self.assertEqual([name for name in rows if name[0] in "dm"], [one[1], one[1], marks[1], marks[1]])
        self.assertEqual(plan_of(shelf, head, 0, ()), ((one[1], one[1]), ()))


if __name__ == "__main__":
    unittest.main()
