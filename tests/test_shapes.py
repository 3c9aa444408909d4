import unittest

from stillfiles.errors import Full, Last, NoChange, NoColumn, NoFit, Taken
from stillfiles.shapes import is_row, is_shape, read_by, reshaped
from things import ANYTHING, LARGE

FRUIT = ((1, "name", "word", ""), (2, "many", "small", 0), (5, "mark", "sign", None))
EIGHT = tuple((k, "abcdefgh"[k - 1], "whole", k) for k in range(1, 9))
ONE = ((3, "only", "sign", "x"),)


class Shapes(unittest.TestCase):
    def test_one_to_eight_columns(self):
        for thing in (ONE, FRUIT, EIGHT, EIGHT[:7]):
            self.assertIs(is_shape(thing), True)
        self.assertIs(is_shape(()), False)
        self.assertIs(is_shape((*EIGHT, (9, "i", "whole", 9))), False)

    def test_numbers_need_not_rise(self):
        self.assertIs(is_shape(FRUIT[::-1]), True)
        self.assertIs(is_shape(((99, "a", "word", None), (1, "b", "word", None))), True)
        self.assertIs(is_shape(((LARGE, "a", "word", None),)), True)

    def test_numbers_are_unlike(self):
        self.assertIs(is_shape(((1, "a", "word", ""), (1, "b", "word", ""))), False)
        self.assertIs(is_shape((*EIGHT[:7], (3, "z", "whole", 3))), False)

    def test_names_are_unlike(self):
        self.assertIs(is_shape(((1, "a", "word", ""), (2, "a", "word", ""))), False)
        self.assertIs(is_shape((*EIGHT[:7], (8, "c", "sign", None))), False)

    def test_each_thing_of_a_column(self):
        right = (1, "a", "small", 7)
        self.assertIs(is_shape((right,)), True)
        wrong = {
            0: (0, -1, True, False, None, "1", (1,), [], {}),
            1: ("", "A", "abcdefg", None, 1, [], {}, "a b"),
            2: ("", "Small", "number", None, 1, True, [], {}, ("small",)),
            3: (100, -100, True, "", "a", (), [], {}),
        }
        for place, things in wrong.items():
            for thing in things:
                column = (*right[:place], thing, *right[place + 1:])
                self.assertIs(is_shape((column,)), False, column)
                self.assertIs(is_shape((*EIGHT[1:], column)), False, column)

    def test_a_fill_fits_its_kind(self):
        fills = {"small": (0, 99, None), "whole": (100, -5), "sign": ("a", None), "word": ("", "abcdefgh")}
        for kind, things in fills.items():
            for thing in things:
                self.assertIs(is_shape(((1, "a", kind, thing),)), True)
        for kind, thing in (("small", 100), ("whole", 10 ** 12 + 1), ("sign", ""), ("sign", "ab"), ("word", "a" * 9),
                            ("word", 1), ("whole", "a"), ("whole", True)):
            self.assertIs(is_shape(((1, "a", kind, thing),)), False)

    def test_tuples_of_four(self):
        self.assertIs(is_shape(((1, "a", "word"),)), False)
        self.assertIs(is_shape(((1, "a", "word", "", ""),)), False)
        self.assertIs(is_shape(([1, "a", "word", ""],)), False)
        self.assertIs(is_shape([(1, "a", "word", "")]), False)
        self.assertIs(is_shape((1, "a", "word", "")), False)

    def test_of_anything(self):
        for thing in ANYTHING:
            self.assertIs(is_shape(thing), False)
            self.assertIs(is_shape(thing=(thing,)), thing == (1, "a", "small", None))


class Rows(unittest.TestCase):
    def test_a_worth_that_fits_for_each(self):
        for row in (("apple", 3, "x"), ("", -99, "a"), (None, None, None), ("abcdefgh", 99, None)):
            self.assertIs(is_row(FRUIT, row), True, row)

    def test_too_short_too_long(self):
        for row in ((), ("apple",), ("apple", 3), ("apple", 3, "x", None), ("apple", 3, "x", "x")):
            self.assertIs(is_row(FRUIT, row), False, row)
        self.assertIs(is_row(ONE, ()), False)
        self.assertIs(is_row(ONE, ("a", "b")), False)

    def test_worths_that_do_not_fit(self):
        for row in ((1, 3, "x"), ("apple", 100, "x"), ("apple", 3, "xy"), ("apple", True, "x"), ("apple", "3", "x"),
                    ("Apple", 3, "x"), ("apple", 3, ""), ("appleapple", 3, "x"), ("apple", [], "x"), ({}, 3, "x")):
            self.assertIs(is_row(FRUIT, row), False, row)

    def test_in_the_order_of_the_shape(self):
        self.assertIs(is_row(FRUIT[::-1], ("x", 3, "apple")), True)
        self.assertIs(is_row(FRUIT[::-1], ("apple", 3, "x")), False)

    def test_a_list_is_none(self):
        self.assertIs(is_row(FRUIT, ["apple", 3, "x"]), False)

    def test_of_anything(self):
        for thing in ANYTHING:
            self.assertIs(is_row(FRUIT, thing), False)
            self.assertIs(is_row(thing=thing, shape=ONE), thing in (("a",), (None,)))


class ReadBy(unittest.TestCase):
    ROW = ("apple", 3, "x")

    def test_by_its_own_shape(self):
        self.assertEqual(read_by(FRUIT, FRUIT, self.ROW), self.ROW)

    def test_by_numbers_not_by_names_or_places(self):
        other = ((5, "name", "sign", None), (1, "new", "word", ""), (2, "mark", "whole", 0))
        self.assertEqual(read_by(FRUIT, other, self.ROW), ("x", "apple", 3))

    def test_by_some_of_its_columns(self):
        self.assertEqual(read_by(FRUIT, (FRUIT[1],), self.ROW), (3,))
        other = ((7, "far", "whole", 500), FRUIT[2], (8, "name", "word", "pear"))
        self.assertEqual(read_by(FRUIT, other, self.ROW), (500, "x", "pear"))

    def test_by_none_of_its_columns(self):
        other = ((7, "name", "word", "pear"), (8, "many", "small", None))
        self.assertEqual(read_by(FRUIT, other, self.ROW), ("pear", None))

    def test_none_is_a_worth_of_its_own(self):
        other = ((1, "name", "word", "pear"), (2, "many", "small", 9))
        self.assertEqual(read_by(FRUIT, other, (None, None, None)), (None, None))

    def test_by_names_of_arguments(self):
        self.assertEqual(read_by(row=("a",), other=FRUIT, shape=ONE), ("", 0, None))


class Reshaped(unittest.TestCase):
    def test_none(self):
        self.assertEqual(reshaped(FRUIT, 6, ()), (FRUIT, 6))

    def test_add(self):
        told = reshaped(FRUIT, 6, (("add", "far", "whole", 500),))
        self.assertEqual(told, ((*FRUIT, (6, "far", "whole", 500)), 7))
        self.assertEqual(reshaped(ONE, 40, (("add", "a", "sign", None),)), ((*ONE, (40, "a", "sign", None)), 41))

    def test_add_two(self):
        told = reshaped(ONE, 4, (("add", "a", "word", ""), ("add", "b", "small", -9)))
        self.assertEqual(told, ((*ONE, (4, "a", "word", ""), (5, "b", "small", -9)), 6))

    def test_out(self):
        self.assertEqual(reshaped(FRUIT, 6, (("out", "many"),)), ((FRUIT[0], FRUIT[2]), 6))
        self.assertEqual(reshaped(FRUIT, 6, (("out", "mark"), ("out", "name"))), ((FRUIT[1],), 6))

    def test_name(self):
        told = reshaped(FRUIT, 6, (("name", "many", "count"),))
        self.assertEqual(told, ((FRUIT[0], (2, "count", "small", 0), FRUIT[2]), 6))

    def test_widen(self):
        told = ((FRUIT[0], (2, "many", "whole", 0), FRUIT[2]), 6)
        self.assertEqual(reshaped(FRUIT, 6, (("widen", "many", "whole"),)), told)
        told = (((3, "only", "word", "x"),), 4)
        self.assertEqual(reshaped(ONE, 4, (("widen", "only", "word"),)), told)

    def test_names_exchanged(self):
        changes = (("name", "name", "x"), ("name", "many", "name"), ("name", "x", "many"))
        told = ((1, "many", "word", ""), (2, "name", "small", 0), FRUIT[2])
        self.assertEqual(reshaped(FRUIT, 6, changes), (told, 6))

    def test_out_and_in_anew_under_its_name(self):
        changes = (("out", "name"), ("add", "name", "whole", 1), ("out", "name"), ("add", "name", "sign", "a"))
        self.assertEqual(reshaped(FRUIT, 6, changes), ((*FRUIT[1:], (7, "name", "sign", "a")), 8))

    def test_each_by_what_those_ahead_leave(self):
        changes = (("name", "only", "a"), ("add", "only", "small", 5), ("widen", "only", "whole"), ("out", "a"))
        self.assertEqual(reshaped(ONE, 9, changes), (((9, "only", "whole", 5),), 10))

    def test_eight_are_reached_and_held(self):
        self.assertEqual(reshaped(EIGHT[:7], 9, (("add", "z", "word", ""),)), ((*EIGHT[:7], (9, "z", "word", "")), 10))
        changes = (("out", "a"), ("add", "z", "word", ""))
        self.assertEqual(reshaped(EIGHT, 9, changes), ((*EIGHT[1:], (9, "z", "word", "")), 10))

    def test_four_are_the_most(self):
        changes = tuple(("add", name, "word", None) for name in "abcd")
        self.assertEqual(reshaped(ONE, 4, changes)[1], 8)

    def test_by_names_of_arguments(self):
        self.assertEqual(reshaped(changes=(("out", "name"),), next_number=6, shape=FRUIT), (FRUIT[1:], 6))

    def test_what_is_handed_in_stays(self):
        changes = (("out", "name"),)
        self.assertEqual(reshaped(FRUIT, 6, changes), reshaped(FRUIT, 6, changes))
        self.assertEqual((FRUIT[0], changes), ((1, "name", "word", ""), (("out", "name"),)))


class Refused(unittest.TestCase):
    def refused(self, error, field, told, shape, changes):
        with self.assertRaises(error) as caught:
            reshaped(shape, 50, changes)
        if field is None:
            self.assertEqual(vars(caught.exception), {})
        else:
            self.assertEqual(vars(caught.exception), {field: told})
            self.assertIs(type(vars(caught.exception)[field]), type(told))

    def test_no_tuple_of_four_at_most(self):
        for changes in (None, [], {}, "add", 1, True, [("out", "name")], (("out", "name"),) * 5, (1,) * 5):
            self.refused(NoChange, "place", -1, FRUIT, changes)

    def test_five_are_too_many(self):
        changes = tuple(("add", name, "word", None) for name in "abcd")
        self.refused(NoChange, "place", -1, ONE, (*changes, ("out", "a")))

    def test_of_anything(self):
        for thing in ANYTHING:
            if thing == () and isinstance(thing, tuple):
                self.assertEqual(reshaped(FRUIT, 6, thing), (FRUIT, 6))
            elif isinstance(thing, tuple) and len(thing) <= 4:
                self.refused(NoChange, "place", 0, FRUIT, thing)
            else:
                self.refused(NoChange, "place", -1, FRUIT, thing)
            self.refused(NoChange, "place", 1, FRUIT, (("out", "name"), thing))
            for change in (("add", thing, "word", ""), ("add", "a", thing, ""), ("out", thing), ("widen", "a", thing),
                           (thing, "a"), (thing, "a", "b"), (thing, "a", "small", 1), ("out", "name", thing)):
                if thing not in ("a", "ab", "abcdef"):
                    self.refused(NoChange, "place", 0, FRUIT, (change,))

    def test_forms_of_each_word(self):
        for change in (("add", "a", "word"), ("add", "a", "word", "", ""), ("add", "a", "number", 1),
                       ("add", "a", "small", 100), ("add", "a", "small", True), ("add", "A", "small", 1),
                       ("add", "a", "sign", ""), ("out",), ("out", ""), ("out", "name", "name"), ("name", "name"),
                       ("name", "name", ""), ("name", "name", "abcdefg"), ("name", 1, "a"), ("widen", "name"),
                       ("widen", "name", "wide"), ("widen", "name", None), ("widen", "name", "word", ""),
                       ("drop", "name"), ("Out", "name"), ("wide", "many", "whole"), ("", "many", "whole"), ("name",), ("add",), ("widen",), ["out", "name"]):
            self.refused(NoChange, "place", 0, FRUIT, (change,))
            self.refused(NoChange, "place", 2, FRUIT, (("out", "name"), ("out", "many"), change, change))

    def test_no_change_goes_ahead_of_what_can_not_be_done(self):
        for wrong in (("out", "none"), ("add", "name", "word", ""), ("name", "name", "many"), ("widen", "name", "sign")):
            self.refused(NoChange, "place", 1, FRUIT, (wrong, 1))
            self.refused(NoChange, "place", 3, FRUIT, (wrong, wrong, wrong, ("out",)))
            self.refused(NoChange, "place", -1, FRUIT, (wrong,) * 5)

    def test_add(self):
        self.refused(Taken, "name", "many", FRUIT, (("add", "many", "word", ""),))
        self.refused(Full, None, None, EIGHT, (("add", "z", "word", ""),))
        self.refused(Taken, "name", "c", EIGHT, (("add", "c", "word", ""),))
        changes = (("add", "z", "word", ""), ("add", "zz", "word", ""))
        self.refused(Full, None, None, EIGHT[:7], changes)

    def test_no_column(self):
        for change in (("out", "none"), ("name", "none", "many"), ("name", "none", "none"), ("widen", "none", "word")):
            self.refused(NoColumn, "name", "none", FRUIT, (change,))
        for change in (("out", "none"), ("name", "none", "only"), ("widen", "none", "word")):
            self.refused(NoColumn, "name", "none", ONE, (change,))

    def test_last(self):
        self.refused(Last, None, None, ONE, (("out", "only"),))
        self.refused(Last, None, None, FRUIT, (("out", "name"), ("out", "mark"), ("out", "many")))

    def test_name_taken(self):
        self.refused(Taken, "name", "mark", FRUIT, (("name", "many", "mark"),))
        self.refused(Taken, "name", "many", FRUIT, (("name", "many", "many"),))
        self.refused(Taken, "name", "only", ONE, (("name", "only", "only"),))

    def test_widen_not_wider(self):
        wider = {("small", "whole"), ("sign", "word")}
        for kind in ("small", "whole", "sign", "word"):
            for new in ("small", "whole", "sign", "word"):
                shape, changes = ((1, "a", kind, None),), (("widen", "a", new),)
                if (kind, new) in wider:
                    self.assertEqual(reshaped(shape, 2, changes), (((1, "a", new, None),), 2))
                else:
                    self.refused(NoFit, "name", "a", shape, changes)

    def test_the_first_that_can_not_be_done(self):
        changes = (("out", "name"), ("widen", "name", "word"), ("add", "many", "word", ""))
        self.refused(NoColumn, "name", "name", FRUIT, changes)
        changes = (("name", "many", "a"), ("out", "many"), ("out", "a"))
        self.refused(NoColumn, "name", "many", FRUIT, changes)
        changes = (("widen", "many", "whole"), ("widen", "many", "whole"), ("out", "none"))
        self.refused(NoFit, "name", "many", FRUIT, changes)
        changes = (("add", "a", "word", ""), ("name", "name", "a"), ("add", "a", "word", ""))
        self.refused(Taken, "name", "a", FRUIT, changes)


if __name__ == "__main__":
    unittest.main()
