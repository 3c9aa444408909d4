import unittest

from stillfiles.conditions import bound, meets
from stillfiles.errors import NoColumn, NoCond
from things import ANYTHING, LARGE

FRUIT = ((4, "name", "word", ""), (2, "many", "small", 0), (9, "mark", "sign", None))
ONES = (("name", "is", "pear"), ("many", "below", 5), ("mark", "from", None), ("many", "is", -10 ** 12))


class Bound(unittest.TestCase):
    def test_none_to_four_in_order(self):
        told = ((4, "is", "pear"), (2, "below", 5), (9, "from", None), (2, "is", -10 ** 12))
        for many in range(5):
            self.assertEqual(bound(FRUIT, ONES[:many]), told[:many])
        self.assertEqual(bound(FRUIT, ONES[::-1]), told[::-1])

    def test_the_same_test_twice(self):
        self.assertEqual(bound(FRUIT, ONES[:1] * 4), ((4, "is", "pear"),) * 4)

    def test_worths_of_the_other_sort_are_bound(self):
        self.assertEqual(bound(FRUIT, (("name", "is", 5), ("many", "from", "a"))), ((4, "is", 5), (2, "from", "a")))

    def test_by_names_of_arguments(self):
        self.assertEqual(bound(where=(("mark", "is", "x"),), shape=FRUIT), ((9, "is", "x"),))

    def test_what_is_handed_in_stays(self):
        where = ONES[:2]
        self.assertEqual(bound(FRUIT, where), bound(FRUIT, where))
        self.assertEqual(where, (("name", "is", "pear"), ("many", "below", 5)))

    def no_cond(self, where):
        with self.assertRaises(NoCond) as caught:
            bound(FRUIT, where)
        self.assertEqual(vars(caught.exception), {})

    def test_no_condition(self):
        for where in (None, [], {}, "", ONES[0], list(ONES), (*ONES, ONES[0]), (list(ONES[0]),), ((),), (None,)):
            self.no_cond(where)

    def test_each_thing_of_a_test(self):
        right = ("many", "below", 5)
        wrong = {
            0: ("", "Many", "abcdefg", None, 2, True, [], {}, ("many",)),
            1: ("above", "Is", "", None, 1, True, [], {}, ("is",), "below "),
            2: (True, False, 10 ** 12 + 1, -10 ** 12 - 1, LARGE, "A", "abcdefghi", " ", [], {}, ()),
        }
        for place, things in wrong.items():
            for thing in things:
                test = (*right[:place], thing, *right[place + 1:])
                self.no_cond((test,))
                self.no_cond((*ONES[:3], test))
        for test in (right[:2], (*right, 5), right[:1], (*right, None)):
            self.no_cond((test,))
            self.no_cond((ONES[0], test))

    def test_of_anything(self):
        for thing in ANYTHING:
            if isinstance(thing, tuple) and thing == ():
                self.assertEqual(bound(FRUIT, thing), ())
            else:
                self.no_cond(thing)
            self.no_cond((thing,))
            self.no_cond((ONES[0], thing))
            self.no_cond((("many", thing, 1),))

    def test_no_column_is_the_first_one(self):
        for where, name in (((("none", "is", 1),), "none"),
                            ((ONES[0], ("aa", "is", 1), ("bb", "is", 1)), "aa"),
                            ((("bb", "is", 1), ONES[0], ("aa", "is", 1)), "bb")):
            with self.assertRaises(NoColumn) as caught:
                bound(FRUIT, where)
            self.assertEqual(caught.exception.name, name)

    def test_no_cond_goes_ahead_of_no_column(self):
        self.no_cond((("none", "is", 1), ("none", "is", True)))
        self.no_cond((("none", "is", 1),) * 5)
        self.no_cond((("none", "is", 1), None))


class Meets(unittest.TestCase):
    WORTHS = (None, -10 ** 12, -2, -1, 0, 1, 2, 10, 10 ** 12, "", "a", "aa", "b", "ba", "z")

    def test_is(self):
        for one in self.WORTHS:
            for other in self.WORTHS:
                self.assertIs(meets(("a", "is", one), other), one == other, (one, other))

    def test_below_and_from(self):
        for bar in self.WORTHS:
            for worth in self.WORTHS:
                alike = bar is not None and worth is not None and type(bar) is type(worth)
                self.assertIs(meets((1, "below", bar), worth), alike and worth < bar, (bar, worth))
                self.assertIs(meets((1, "from", bar), worth), alike and worth >= bar, (bar, worth))

    def test_unlike_sorts_meet_neither(self):
        for bar, worth in ((5, "a"), ("a", 5), (5, ""), ("", 0), (None, 5), (5, None), ("a", None), (None, ""),
                           (None, None)):
            self.assertIs(meets((1, "below", bar), worth), False)
            self.assertIs(meets((1, "from", bar), worth), False)

    def test_by_names_of_arguments(self):
        self.assertIs(meets(worth=3, test=("many", "from", 3)), True)


if __name__ == "__main__":
    unittest.main()
