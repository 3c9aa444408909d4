import itertools
import unittest

from stillfiles.conditions import meets
from stillfiles.spans import may_meet, span_of


class SpanOf(unittest.TestCase):
    def test_of_no_worths_and_of_none_alone(self):
        self.assertEqual(span_of(3, ()), (3, None, None, 0))
        self.assertEqual(span_of(3, (None,)), (3, None, None, 1))
        self.assertEqual(span_of(99, (None,) * 7), (99, None, None, 7))

    def test_of_numbers(self):
        self.assertEqual(span_of(1, (5,)), (1, 5, 5, 0))
        self.assertEqual(span_of(1, (5, -3, 0)), (1, -3, 5, 0))
        self.assertEqual(span_of(1, (9, 10, -9, -10)), (1, -10, 10, 0))
        self.assertEqual(span_of(1, (0,)), (1, 0, 0, 0))

    def test_of_texts(self):
        self.assertEqual(span_of(2, ("b", "", "ab", "z", "za")), (2, "", "za", 0))
        self.assertEqual(span_of(2, ("",)), (2, "", "", 0))

    def test_blanks_are_counted_and_no_more(self):
        self.assertEqual(span_of(1, (None, 5, None, -3)), (1, -3, 5, 2))
        self.assertEqual(span_of(1, ("b", None, "a")), (1, "a", "b", 1))
        self.assertEqual(span_of(1, (0, None)), (1, 0, 0, 1))

    def test_by_names_of_arguments(self):
        self.assertEqual(span_of(worths=(1, 2), number=7), (7, 1, 2, 0))


class MayMeet(unittest.TestCase):
    NUMBERS = (1, -5, 20, 0)
    TEXTS = (1, "c", "m", 2)

    def told(self, span, word, truths):
        for worth, truth in truths.items():
            self.assertIs(may_meet(span, (1, word, worth)), truth, (span, word, worth))
            self.assertIs(may_meet(span, ("name", word, worth)), truth, (span, word, worth))

    def test_is_of_numbers(self):
        truths = {-6: False, -5: True, -4: True, 0: True, 19: True, 20: True, 21: False, "": False, "c": False}
        self.told(self.NUMBERS, "is", truths)

    def test_below_of_numbers(self):
        truths = {-6: False, -5: False, -4: True, 20: True, 21: True, 10 ** 12: True, "z": False, None: False}
        self.told(self.NUMBERS, "below", truths)

    def test_from_of_numbers(self):
        truths = {-10 ** 12: True, -5: True, 19: True, 20: True, 21: False, "": False, None: False}
        self.told(self.NUMBERS, "from", truths)

    def test_is_of_texts(self):
        truths = {"": False, "b": False, "bz": False, "c": True, "ca": True, "lz": True, "m": True, "ma": False, 5: False}
        self.told(self.TEXTS, "is", truths)

    def test_below_of_texts(self):
        self.told(self.TEXTS, "below", {"": False, "c": False, "ca": True, "m": True, "z": True, 5: False, None: False})

    def test_from_of_texts(self):
        self.told(self.TEXTS, "from", {"": True, "c": True, "m": True, "ma": False, "z": False, 5: False, None: False})

    def test_is_none_by_the_blanks(self):
        for blanks, truth in ((0, False), (1, True), (7, True)):
            self.told((1, -5, 20, blanks), "is", {None: truth})
            self.told((1, "a", "b", blanks), "is", {None: truth})
            self.told((1, None, None, blanks), "is", {None: truth})
            for word in ("below", "from"):
                self.told((1, -5, 20, blanks), word, {None: False})
                self.told((1, None, None, blanks), word, {None: False})

    def test_none_alone_meets_no_worth(self):
        for word in ("is", "below", "from"):
            self.told((1, None, None, 3), word, {0: False, 5: False, -5: False, "": False, "a": False})

    def test_one_worth(self):
        self.told((1, 0, 0, 0), "is", {-1: False, 0: True, 1: False})
        self.told((1, 0, 0, 0), "below", {0: False, 1: True})
        self.told((1, 0, 0, 0), "from", {0: True, 1: False})
        self.told((1, "", "", 0), "from", {"": True, "a": False})
        self.told((1, "", "", 0), "below", {"": False, "a": True})

    def test_it_is_left_out_only_where_no_worth_meets_it(self):
        for sort in ((-2, 0, 3, None), ("", "b", "bb", None)):
            for worths in itertools.product(sort, repeat=3):
                span = span_of(1, worths)
                for word, bar in itertools.product(("is", "below", "from"), (-3, -2, 0, 3, 4, "", "a", "b", "c", None)):
                    if any(meets((1, word, bar), worth) for worth in worths):
                        self.assertIs(may_meet(span, (1, word, bar)), True, (worths, word, bar))

    def test_by_names_of_arguments(self):
        self.assertIs(may_meet(test=(1, "is", 20), span=self.NUMBERS), True)


if __name__ == "__main__":
    unittest.main()
