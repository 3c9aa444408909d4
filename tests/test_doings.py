"""Promise 20: what a commit did."""

import unittest

from hands import Hand
from stillfiles.doings import did
from stillfiles.errors import NoCommit
from things import ANYTHING

SHAPES = (((1, "name", "word", "none"),),)


class Did(unittest.TestCase):
    def setUp(self):
        hand = self.hand = Hand(SHAPES)
        one, two, three = [hand.data(1, ((name,),)) for name in "abc"]
        four, key, other = hand.data(2, (("d",),)), hand.key(3, 1, "a"), hand.key(4, 1, "b")
        marks, more, late = hand.marks(3, two[1], (0,)), hand.marks(3, one[1], (0,)), hand.marks(5, four[1], (0,))
        hand.commit(word="make")
        first = hand.list(two, one)
        hand.commit(first)
        hand.commit(hand.list(four, three))
        hand.commit(hand.list(marks, key, more))
        hand.commit(hand.list(other, marks, three), hand.list(late, four), hand.list(one), keep=())
        hand.commit(first, word="back", keep=())
        hand.commit(keep=hand.lists)
        self.names = {"one": one, "two": two, "three": three, "four": four, "key": key, "other": other,
                      "marks": marks, "more": more, "late": late}
        self.names = {name: entry[1] for name, entry in self.names.items()}

    def told(self, number):
        return did(self.hand.folder(), self.hand.head(), number)

    def files(self, names):
        return tuple([self.names[name] for name in names.split()])

    def test_puts_in_the_order_of_entries(self):
        self.assertEqual(self.told(1), (self.files("two one"), (), (), ()))
        self.assertEqual(self.told(2), (self.files("four three"), (), (), ()))

    def test_marks_and_keys(self):
        marks = (self.files("marks two"), self.files("more one"))
        self.assertEqual(self.told(3), ((), (), marks, self.files("key")))

    def test_what_went_in_the_order_of_the_elder_entries(self):
        self.assertEqual(self.told(4), ((), self.files("two"), (self.files("late four"),), self.files("other")))
        self.assertEqual(self.told(5), (self.files("two"), self.files("three four"), (), ()))

    def test_by_names_not_by_lists(self):
        hand = Hand(SHAPES)
        one, two = hand.data(0, (("a",),)), hand.data(0, (("b",),))
        hand.commit(hand.list(one, two))
        hand.commit(hand.list(two), hand.list(one), keep=())
        self.assertEqual(did(hand.folder(), hand.head(), 1), ((), (), (), ()))

    def test_nothing(self):
        self.assertEqual(self.told(6), ((), (), (), ()))

    def test_no_commit_of_its_own(self):
        for number in (7, *[thing for thing in ANYTHING if thing not in (0, 1, 2)]):
            with self.assertRaises(NoCommit) as caught:
                did(place=self.hand.folder(), head=self.hand.head(), number=number)
            self.assertIs(caught.exception.number, number)
        for number in (True, False):
            with self.assertRaises(NoCommit) as caught:
                self.told(number)
            self.assertIs(caught.exception.number, number)

    def test_no_commit_of_the_one_less(self):
        with self.assertRaises(NoCommit) as caught:
            self.told(0)
        self.assertEqual(caught.exception.number, -1)
        del self.hand.commits[3]
        for number, missing in ((3, 3), (4, 3)):
            with self.assertRaises(NoCommit) as caught:
                self.told(number)
            self.assertEqual(caught.exception.number, missing)
        self.assertEqual(self.told(5), (self.files("two"), self.files("three four"), (), ()))


if __name__ == "__main__":
    unittest.main()
