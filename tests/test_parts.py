import itertools
import unittest

from stillfiles.conditions import meets
from stillfiles.errors import NoColumn, NoFit, NoRule
from stillfiles.parts import bound_rule, part_may, part_of
from things import ANYTHING, LARGE

KINDS = ((4, "few", "small", 0), (2, "many", "whole", 0), (9, "mark", "sign", None), (7, "name", "word", ""))
RIGHT = (("many", ("range", 10)), ("name", ("first", 2)), ("mark", ("same",)))


class Bound(unittest.TestCase):
    def refused(self, error, rule, name=None):
        with self.assertRaises(error) as caught:
            bound_rule(KINDS, rule)
        self.assertEqual(vars(caught.exception), {} if error is NoRule else {"name": name})

    def test_none_to_three_fields_in_order(self):
        told = ((2, ("range", 10)), (7, ("first", 2)), (9, ("same",)))
        for many in range(4):
            self.assertEqual(bound_rule(KINDS, RIGHT[:many]), told[:many])
        self.assertEqual(bound_rule(rule=RIGHT[::-1], shape=KINDS), told[::-1])

    def test_each_way_by_each_kind(self):
        fitting = {"same": ("few", "many", "mark", "name"), "range": ("few", "many"), "rest": ("few", "many"),
                   "first": ("mark", "name")}
        for way in (("same",), ("range", 5), ("rest", 5), ("first", 5)):
            for number, name, _, _ in KINDS:
                if name in fitting[way[0]]:
                    self.assertEqual(bound_rule(KINDS, ((name, way),)), ((number, way),))
                else:
                    self.refused(NoFit, ((name, way),), name)

    def test_bounds_of_k(self):
        for word, most, name in (("range", 1000, "many"), ("rest", 100, "few"), ("first", 8, "name")):
            for k in (1, 2, most - 1, most):
                self.assertEqual(bound_rule(KINDS, ((name, (word, k)),))[0][1], (word, k))
            for k in (0, -1, most + 1, LARGE, True, False, None, "1", (1,), [], {}):
                self.refused(NoRule, ((name, (word, k)),))

    def test_no_way(self):
        for way in (("same", 0), ("same", 1), ("range",), ("first",), ("range", 1, 1), (), "same", None, ["same"],
                    ["range", 5], ("Same",), ("last", 1), ([], 1), ({}, 1), ((), 1), (None, 1), (1, 1), ("", 1)):
            self.refused(NoRule, (("many", way),))
            self.refused(NoRule, (*RIGHT[1:], ("many", way)))

    def test_no_rule(self):
        for rule in (None, [], {}, "", RIGHT[0], list(RIGHT), (*RIGHT, ("few", ("same",))), (list(RIGHT[0]),),
                     (RIGHT[0][:1],), ((*RIGHT[0], 1),), ((),), (RIGHT[0], RIGHT[0])):
            self.refused(NoRule, rule)
        for name in ("", "Many", "abcdefg", None, 2, True, [], {}, ("many",)):
            self.refused(NoRule, ((name, ("same",)),))

    def test_names_alike(self):
        self.refused(NoRule, (("many", ("same",)), ("many", ("range", 5))))
        self.refused(NoRule, (("none", ("same",)), ("name", ("same",)), ("none", ("same",))))

    def test_of_anything(self):
        for thing in ANYTHING:
            if isinstance(thing, tuple) and thing == ():
                self.assertEqual(bound_rule(KINDS, thing), ())
            else:
                self.refused(NoRule, thing)
            for field in (thing, ("many", thing), ("many", (thing, 5))):
                self.refused(NoRule, (field,))
            if type(thing) is not int or not 1 <= thing <= 1000:
                self.refused(NoRule, (("many", ("range", thing)),))

    def test_no_rule_goes_ahead_of_all_else(self):
        self.refused(NoRule, (("none", ("same",)), ("name", ("range", 5)), ("many", ("range", 0))))
        self.refused(NoRule, (("name", ("range", 5)), None))

    def test_field_by_field(self):
        self.refused(NoColumn, (("none", ("same",)), ("name", ("range", 5))), "none")
        self.refused(NoFit, (("name", ("range", 5)), ("none", ("same",))), "name")
        self.refused(NoFit, (RIGHT[0], ("mark", ("rest", 5)), ("few", ("first", 1))), "mark")
        self.refused(NoColumn, (RIGHT[0], ("aa", ("first", 5)), ("bb", ("first", 1))), "aa")


class PartOf(unittest.TestCase):
    def field(self, number, way, worth):
        row = tuple(worth if column[0] == number else None for column in KINDS)
        part = part_of(KINDS, ((number, way),), row)
        self.assertEqual(len(part), 1)
        return part[0]

    def test_same(self):
        for number, worths in ((2, (0, -7, 10 ** 12, None)), (7, ("", "abcdefgh", None)), (9, ("x",)), (4, (99, -99))):
            for worth in worths:
                self.assertEqual(self.field(number, ("same",), worth), worth)

    def test_range_rounds_down(self):
        told = {0: 0, 9: 0, 10: 1, 19: 1, 20: 2, -1: -1, -10: -1, -11: -2, -20: -2, 10 ** 12: 10 ** 11, None: None}
        for worth, quotient in told.items():
            self.assertEqual(self.field(2, ("range", 10), worth), quotient, worth)
        self.assertEqual(self.field(4, ("range", 1), -99), -99)
        self.assertEqual(self.field(4, ("range", 1000), -1), -1)

    def test_rest_from_nought_on(self):
        told = {0: 0, 1: 1, 6: 6, 7: 0, 8: 1, -1: 6, -6: 1, -7: 0, -8: 6, None: None}
        for worth, rest in told.items():
            self.assertEqual(self.field(4, ("rest", 7), worth), rest, worth)
        self.assertEqual(self.field(2, ("rest", 1), -5), 0)
        self.assertEqual(self.field(2, ("rest", 100), -10 ** 12 + 1), 1)

    def test_first_letters(self):
        told = {"": "", "a": "a", "ab": "ab", "abc": "abc", "abcd": "abc", "abcdefgh": "abc", None: None}
        for worth, letters in told.items():
            self.assertEqual(self.field(7, ("first", 3), worth), letters, worth)
        self.assertEqual(self.field(7, ("first", 8), "abcdefgh"), "abcdefgh")
        self.assertEqual(self.field(9, ("first", 1), "x"), "x")

    def test_fields_in_the_rules_order(self):
        rule = ((7, ("first", 1)), (4, ("rest", 2)), (2, ("range", 10)))
        self.assertEqual(part_of(KINDS, rule, (5, 27, "x", "pear")), ("p", 1, 2))
        self.assertEqual(part_of(KINDS, rule, (None, -3, None, "")), ("", None, -1))
        self.assertEqual(part_of(row=(1, 2, "x", "pear"), rule=(), shape=KINDS), ())


class PartMay(unittest.TestCase):
    RULE = ((2, ("range", 10)), (4, ("rest", 7)), (7, ("first", 2)))
    PART = (-1, 3, "pe")

    def told(self, part, number, truths, rule=RULE):
        for worth, truth in truths.items():
            self.assertIs(part_may(rule, part, (number, "is", worth)), truth, (part, number, worth))

    def test_range(self):
        truths = {-11: False, -10: True, -1: True, 0: False, 9: False, "": False, "pe": False, None: False}
        self.told(self.PART, 2, truths)

    def test_rest(self):
        self.told(self.PART, 4, {3: True, 10: True, -4: True, 4: False, -3: False, "c": False, "": False, None: False})

    def test_first(self):
        truths = {"pe": True, "pear": True, "p": False, "": False, "pf": False, 0: False, 5: False, None: False}
        self.told(self.PART, 7, truths)
        self.told((0, 0, "p"), 7, {"p": True, "pe": False, "": False})
        self.told((0, 0, ""), 7, {"": True, "a": False, 0: False, None: False})

    def test_fields_of_none(self):
        for number in (2, 4, 7):
            self.told((None, None, None), number, {None: True, 0: False, 3: False, "": False, "pe": False})

    def test_same_of_whatever_sort(self):
        rule = ((2, ("same",)), (7, ("same",)))
        self.told((5, "a"), 2, {5: True, 4: False, "a": False, None: False}, rule)
        self.told((5, "a"), 7, {"a": True, "aa": False, 5: False, None: False}, rule)
        self.told((None, "5"), 2, {None: True, 0: False, "": False}, rule)
        self.told(("a", 5), 2, {"a": True, 5: False}, rule)

    def test_columns_without_a_field(self):
        for worth in (None, 5, "a"):
            self.told(self.PART, 9, {worth: True})
            self.told((), 2, {worth: True}, ())

    def test_below_and_from_are_always_met(self):
        for number, word in itertools.product((2, 4, 7, 9), ("below", "from")):
            for worth in (None, -100, 0, 100, "", "z"):
                self.assertIs(part_may(self.RULE, self.PART, (number, word, worth)), True)

    def test_it_is_left_out_only_where_no_row_meets_it(self):
        shape = ((1, "a", "small", 0), (2, "b", "word", ""))
        for way, rest in itertools.product((("same",), ("range", 3), ("rest", 3)), (("same",), ("first", 1))):
            rule = ((1, way), (2, rest))
            for row in itertools.product((-4, -3, 0, 2, None), ("", "a", "ab", "b", None)):
                part = part_of(shape, rule, row)
                for number, bar in itertools.product((1, 2), (-4, -3, 0, 2, None, "", "a", "ab", "b")):
                    if meets((number, "is", bar), row[number - 1]):
                        self.assertIs(part_may(rule, part, (number, "is", bar)), True)

    def test_by_names_of_arguments(self):
        self.assertIs(part_may(test=(2, "is", 5), part=(1,), rule=((2, ("range", 10)),)), False)


if __name__ == "__main__":
    unittest.main()
