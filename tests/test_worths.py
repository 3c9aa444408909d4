import itertools
import unittest

from stillfiles.worths import fits, is_name, is_wider, is_worth, rising
from things import ANYTHING, LARGE

TOP = 10 ** 12


class Names(unittest.TestCase):
    def test_one_to_six_letters(self):
        for thing in ("a", "z", "az", "abcdef", "zzzzzz", "make", "is"):
            self.assertIs(is_name(thing), True, thing)

    def test_others_are_none(self):
        for thing in ("", "abcdefg", "A", "aB", "a1", "1", "a b", " a", "a ", "a\n", "\n", "a-", ".a", "`", "{", "a_"):
            self.assertIs(is_name(thing), False, thing)

    def test_signs_of_other_writings_are_none(self):
        for thing in ("\u00e4", "a\u00df", "\u0430", "\u00aa", "\uff41"):
            self.assertIs(is_name(thing), False, thing)

    def test_of_anything(self):
        for thing in ANYTHING:
            self.assertIs(is_name(thing), thing in ("a", "ab", "abcdef"), repr(thing)[:80])

    def test_by_name(self):
        self.assertIs(is_name(thing="a"), True)


class Worths(unittest.TestCase):
    def test_bounds_of_numbers(self):
        for thing in (0, 1, -1, TOP, -TOP, TOP - 1, 1 - TOP):
            self.assertIs(is_worth(thing), True, thing)
        for thing in (TOP + 1, -TOP - 1, LARGE, -LARGE):
            self.assertIs(is_worth(thing), False, thing)

    def test_bounds_of_texts(self):
        for thing in ("", "a", "abcdefgh", "zzzzzzzz"):
            self.assertIs(is_worth(thing), True, thing)
        for thing in ("abcdefghi", "A", "a ", " ", "-", ".", "1", "a\n", "\n", "\u00e4"):
            self.assertIs(is_worth(thing), False, thing)

    def test_none_is_one_a_truth_is_none(self):
        self.assertIs(is_worth(None), True)
        self.assertIs(is_worth(True), False)
        self.assertIs(is_worth(False), False)

    def test_of_anything(self):
        for thing in ANYTHING:
            told = thing is None or type(thing) is int and abs(thing) <= TOP or thing in ("", "a", "ab", "abcdef", "abcdefg")
            self.assertIs(is_worth(thing=thing), told, repr(thing)[:80])


class Kinds(unittest.TestCase):
    def test_none_fits_each(self):
        for kind in ("small", "whole", "sign", "word"):
            self.assertIs(fits(kind, None), True)

    def test_small(self):
        for thing in (0, 1, -1, 98, 99, -98, -99):
            self.assertIs(fits("small", thing), True, thing)
        for thing in (100, -100, TOP, "", "a", True, False):
            self.assertIs(fits("small", thing), False, thing)

    def test_whole(self):
        for thing in (0, 99, 100, -100, TOP - 1, TOP, -TOP):
            self.assertIs(fits("whole", thing), True, thing)
        for thing in (TOP + 1, -TOP - 1, "", "a", True, False):
            self.assertIs(fits("whole", thing), False, thing)

    def test_sign(self):
        for thing in ("a", "m", "z"):
            self.assertIs(fits("sign", thing), True, thing)
        for thing in ("", "ab", "A", "1", " ", "-", "\n", 0, 1, True):
            self.assertIs(fits("sign", thing), False, thing)

    def test_word(self):
        for thing in ("", "a", "ab", "abcdefg", "abcdefgh"):
            self.assertIs(fits("word", thing), True, thing)
        for thing in ("abcdefghi", "Ab", "a1", "a b", 0, 1, False):
            self.assertIs(fits("word", thing), False, thing)

    def test_of_anything(self):
        for thing in ANYTHING:
            number, text = type(thing) is int, isinstance(thing, str)
            letters = text and thing.strip("abcdefghijklmnopqrstuvwxyz") == ""
            self.assertIs(fits("small", thing), thing is None or number and -99 <= thing <= 99)
            self.assertIs(fits("whole", thing), thing is None or number and -TOP <= thing <= TOP)
            self.assertIs(fits("sign", thing), thing is None or letters and len(thing) == 1)
            self.assertIs(fits(thing=thing, kind="word"), thing is None or letters and len(thing) <= 8)

    def test_wider_of_all_pairs(self):
        wider = {("whole", "small"), ("word", "sign")}
        for pair in itertools.product(("small", "whole", "sign", "word"), repeat=2):
            self.assertIs(is_wider(*pair), pair in wider, pair)
        self.assertIs(is_wider(other="small", kind="whole"), True)


class Rising(unittest.TestCase):
    def test_worths_stand_so(self):
        worths = (None, -TOP, -100, -2, -1, 0, 1, 9, 10, TOP, "", "a", "aa", "ab", "b", "z", "za")
        for one, other in itertools.permutations(worths, 2):
            rows = ((one,), (other,))
            if worths.index(one) > worths.index(other):
                rows = rows[::-1]
            self.assertEqual(rising(((one,), (other,))), rows)
        self.assertEqual(rising(tuple((worth,) for worth in worths[::-1])), tuple((worth,) for worth in worths))

    def test_worth_by_worth(self):
        rows = ((2, None), (1, "b"), (None, "z"), (1, "a"), (1, None), ("a", 1), (1, 5))
        told = ((None, "z"), (1, None), (1, 5), (1, "a"), (1, "b"), (2, None), ("a", 1))
        self.assertEqual(rising(rows), told)

    def test_a_beginning_goes_ahead(self):
        rows = ((1, None), (1,), (), (None,), (1, 2), (1, None, None), (0, 9, 9))
        told = ((), (None,), (0, 9, 9), (1,), (1, None), (1, None, None), (1, 2))
        self.assertEqual(rising(rows), told)

    def test_each_as_often_as_it_stands(self):
        rows = ((1,), (0,), (1,), (None,), (0,), (1,))
        self.assertEqual(rising(rows), ((None,), (0,), (0,), (1,), (1,), (1,)))

    def test_none_and_one(self):
        self.assertEqual(rising(()), ())
        self.assertEqual(rising(((),)), ((),))
        self.assertEqual(rising(((), ())), ((), ()))
        self.assertEqual(rising(rows=((3, "a"),)), ((3, "a"),))

    def test_what_is_handed_in_stays(self):
        rows = ((2,), (1,))
        self.assertEqual(rising(rows), ((1,), (2,)))
        self.assertEqual(rising(rows), ((1,), (2,)))
        self.assertEqual(rows, ((2,), (1,)))


if __name__ == "__main__":
    unittest.main()
