import unittest

from right_contents import DATA, HEAD, KEY, LIST, LISTS, MARKS, RIGHT, SMALL_HEAD, at_place, paths_of, with_place
from stillfiles.contents import is_content, is_file
from things import ANYTHING, LARGE

# Of no use where a whole number from 0 on is due.
NO_COUNT = (-1, True, False, None, "0", "a", (), (0,), [], {})
NO_NUMBER = (0, *NO_COUNT)
NO_WORTH = (True, False, 10 ** 12 + 1, -10 ** 12 - 1, LARGE, "A", "a b", "abcdefghi", "-", (), (1,), [], {})
NO_NAME = ("", "A", "abcdefg", "a1", "-", None, 0, 1, True, (), ("a",), [], {})
PART_WRONG = (None, [], "", 0, (1, 2, 3, 4), [1], ((),), (True,), ("A",), ([],), ({},), (10 ** 12 + 1,))


def no_files(letter):
    """Things that are no name of a file of this letter."""
    others = [other + "1" for other in "dmklsh" if other != letter]
    ends = ("", "0", "01", "-1", "1a", "a", " 1", "1 ", "1\n", "1.0", "\u00b2", "\u0661")
    return (*others, *[letter + end for end in ends], letter.upper() + "1", "1", "", None, 1, True, (), [], {})


class Files(unittest.TestCase):
    def test_each_letter(self):
        for letter in "dmklsh":
            for end in ("1", "9", "10", "19", "100", "123456789", "1" * 3999):
                self.assertIs(is_file(letter + end), True)
                for other in "dmklsh":
                    self.assertIs(is_file(letter + end, letter=other), letter == other)

    def test_others_are_none(self):
        for letter in "dmklsh":
            for thing in no_files(letter):
                self.assertIs(is_file(thing, letter=letter), False, thing)
        for thing in ("a1", "x1", "g1", "dm1", "d", "1d", "d 1", "d+1", "d1_0", "D1", "d00", "d0"):
            self.assertIs(is_file(thing), False, thing)

    def test_of_anything(self):
        for thing in ANYTHING:
            self.assertIs(is_file(thing=thing), False)
            self.assertIs(is_file(thing, letter="d"), False)


class Contents(unittest.TestCase):
    def wrong(self, content, path, things):
        for thing in things:
            changed = with_place(content, path, thing)
            self.assertIs(is_content(changed), False, changed)

    def right(self, content, path, things):
        for thing in things:
            changed = with_place(content, path, thing)
            self.assertIs(is_content(changed), True, changed)


class AllSix(Contents):
    def test_right_ones(self):
        for content in RIGHT:
            self.assertIs(is_content(content), True, content)

    def test_of_anything(self):
        for thing in ANYTHING:
            self.assertIs(is_content(thing=thing), False)
            for content in (DATA, MARKS, KEY, LIST, LISTS, HEAD):
                self.assertIs(is_content((content[0], thing)), content is LISTS and thing == () and type(thing) is tuple)
                self.assertIs(is_content((thing, *content[1:])), False)

    def test_anything_at_any_place_is_answered(self):
        for content in (DATA, MARKS, KEY, LIST, LISTS, HEAD):
            for path in paths_of(content):
                for thing in ANYTHING[:-6]:
                    self.assertIn(is_content(with_place(content, path, thing)), (True, False))

    def test_lists_dicts_and_truths_are_right_nowhere(self):
        for content in RIGHT:
            for path in paths_of(content):
                thing = at_place(content, path)
                self.wrong(content, path, ([], {}, True, False, [thing], ([thing],)))
                if isinstance(thing, tuple):
                    self.wrong(content, path, (list(thing), (*thing, True), (False, *thing), (*thing, [])))

    def test_one_thing_less_or_more(self):
        for content in (DATA, MARKS, KEY, LIST, LISTS, HEAD):
            self.assertIs(is_content(content[:-1]), False)
            for more in (None, 0, "", "a", ()):
                self.assertIs(is_content((*content, more)), False)

    def test_words(self):
        for content in RIGHT:
            others = ("data", "marks", "key", "list", "lists", "head", "", "Data", "heads", None, 0, ("data",))
            self.wrong(content, (0,), [word for word in others if word != content[0]])

    def test_one_of_many_rows(self):
        rows = ((None, 1),) * 20_000
        self.assertIs(is_content(("data", 0, 0, (), rows)), True)
        self.assertIs(is_content(("data", 0, 0, (), (*rows, (None,)))), False)
        places = tuple(range(50_000))
        self.assertIs(is_content(("marks", "d1", places)), True)
        self.assertIs(is_content(("marks", "d1", (*places, 49_999))), False)


class Data(Contents):
    def test_shape_rule_and_part(self):
        for place in (1, 2):
            self.wrong(DATA, (place,), NO_COUNT)
            self.right(DATA, (place,), (0, 1, LARGE))
        self.wrong(DATA, (3,), PART_WRONG)
        self.right(DATA, (3,), ((), (None,), ("a", 1), (None, None, None)))

    def test_rows(self):
        self.wrong(DATA, (4,), ((), None, 0, "", ((),), ((), ()), ((1,) * 9,), (1,), (None,), ((1,), 1), (1, (1,))))
        self.wrong(DATA, (4,), (((1,), (1, 2)), ((1, 2), (1,)), ((1, 2), (1, 2), (1,)), ((1,), ()), ((), (1,))))
        self.right(DATA, (4,), (((1,),), ((1,) * 8,), (("a",), (1,), (None,)), ((1, 2),) * 50))

    def test_worths(self):
        for path in ((4, 0, 0), (4, 1, 1), (4, 2, 2), (3, 0), (3, 2)):
            self.wrong(DATA, path, NO_WORTH)
            self.right(DATA, path, (None, 0, "", 10 ** 12, -10 ** 12, "abcdefgh"))


class Marks(Contents):
    def test_file(self):
        self.wrong(MARKS, (1,), no_files("d"))
        self.right(MARKS, (1,), ("d1", "d900"))

    def test_places(self):
        self.wrong(MARKS, (2,), ((), None, 0, "01", (1, 0), (1, 1), (0, 1, 1), (2, 1, 3), (0, 5, 4), (-1, 0), (-1,)))
        self.right(MARKS, (2,), ((0,), (LARGE,), (0, 1, 2), (5, LARGE)))
        for path in ((2, 0), (2, 1), (2, 3)):
            self.wrong(MARKS, path, NO_COUNT)


class Key(Contents):
    def test_each_place(self):
        self.wrong(KEY, (1,), NO_NUMBER)
        self.right(KEY, (1,), (1, 99, 100, LARGE))
        self.wrong(KEY, (2,), NO_WORTH)
        self.right(KEY, (2,), (None, 0, "", "abcdefgh", 10 ** 12))


class Lists(Contents):
    def test_entries_are_one_or_more(self):
        self.wrong(LIST, (1,), ((), None, 0, "", "data", ((),), (None,), LIST[1][0], (DATA,), (MARKS,), (KEY,), (LIST,)))
        for k in range(len(LIST[1])):
            self.right(LIST, (1,), (LIST[1][k:], LIST[1][:k + 1], (LIST[1][k],) * 3))

    def test_words_of_entries(self):
        for k, entry in enumerate(LIST[1]):
            others = ("data", "marks", "key", "list", "", None, 0, ("key",))
            self.wrong(LIST, (1, k, 0), [word for word in others if word != entry[0]])

    def test_lengths_of_entries(self):
        for k, entry in enumerate(LIST[1]):
            self.wrong(LIST, (1, k), (entry[:-1], (*entry, 0), (*entry, ()), (*entry, None), entry[:1]))

    def test_data_entry(self):
        self.wrong(LIST, (1, 0, 1), no_files("d"))
        self.wrong(LIST, (1, 0, 2), NO_COUNT)
        self.wrong(LIST, (1, 0, 3), NO_NUMBER)
        for place in (4, 5):
            self.wrong(LIST, (1, 0, place), NO_COUNT)
        self.right(LIST, (1, 0, 2), (0, LARGE))
        self.right(LIST, (1, 0, 3), (1, LARGE))
        self.right(LIST, (1, 0, 4), (0, LARGE))
        self.right(LIST, (1, 0, 5), (0, LARGE))
        self.wrong(LIST, (1, 0, 6), PART_WRONG)
        self.right(LIST, (1, 0, 6), ((), (1,), (1, "a", None)))

    def test_spans(self):
        span = (1, 0, 5, 2)
        self.right(LIST, (1, 0, 7), ((), (span,), (span,) * 8, ((5, None, None, 0), (1, "a", "b", 0))))
        self.wrong(LIST, (1, 0, 7), (None, 0, "", span, (span,) * 9, ((),), (None,), (span, span[:3]), ((*span, 0),)))
        self.wrong(LIST, (1, 0, 7, 0, 0), NO_NUMBER)
        self.wrong(LIST, (1, 0, 7, 1, 1), NO_WORTH)
        self.wrong(LIST, (1, 0, 7, 1, 2), NO_WORTH)
        self.wrong(LIST, (1, 0, 7, 1, 3), NO_COUNT)

    def test_marks_entry(self):
        self.wrong(LIST, (1, 2, 1), no_files("m"))
        self.wrong(LIST, (1, 2, 2), NO_COUNT)
        self.wrong(LIST, (1, 2, 3), no_files("d"))
        self.wrong(LIST, (1, 2, 4), NO_NUMBER)
        self.right(LIST, (1, 2), (("marks", "m1", 0, "d1", 1), ("marks", "m1", LARGE, "d999", LARGE)))

    def test_key_entry(self):
        for k in (3, 4):
            self.wrong(LIST, (1, k, 1), no_files("k"))
            self.wrong(LIST, (1, k, 2), NO_COUNT)
            self.wrong(LIST, (1, k, 3), NO_NUMBER)
            self.wrong(LIST, (1, k, 4), NO_WORTH)
        self.right(LIST, (1, 3), (("key", "k1", 0, 1, 0), ("key", "k1", LARGE, LARGE, "")))

    def test_what_a_table_asks_of_the_others_is_not_looked_at(self):
        self.right(LIST, (1,), ((("marks", "m1", 0, "d9", 1), ("marks", "m1", 0, "d9", 1)),))
        self.right(LIST, (1, 0, 7), (((2, "z", "a", 0), (2, 5, None, 0), (1, None, "a", 0)),))


class ListsOfLists(Contents):
    def test_rows_are_none_or_more(self):
        self.right(LISTS, (1,), ((), LISTS[1][:1], LISTS[1] * 30))
        self.wrong(LISTS, (1,), (None, 0, "", LISTS[1][0], ((),), (None,), (LISTS,)))

    def test_lengths_of_rows(self):
        for k, row in enumerate(LISTS[1]):
            self.wrong(LISTS, (1, k), (row[:-1], (*row, 0), (*row, ()), row[:1], ("lists", *row)))

    def test_each_place(self):
        for k in range(3):
            self.wrong(LISTS, (1, k, 0), no_files("l"))
            self.wrong(LISTS, (1, k, 1), NO_COUNT)
            self.wrong(LISTS, (1, k, 2), NO_COUNT)
            self.right(LISTS, (1, k, 1), (0, LARGE))
            self.right(LISTS, (1, k, 2), (0, LARGE))

    def test_whole_spans(self):
        whole = (1, "a", "b", 0, 0)
        self.right(LISTS, (1, 0, 3), ((), (whole,), (whole,) * 9, ((5, 1, None, 3, 3), (1, "b", 0, 0, LARGE))))
        self.wrong(LISTS, (1, 0, 3), (None, 0, "", whole, ((),), (None,), (whole, whole[:4]), ((*whole, 0),)))
        self.wrong(LISTS, (1, 0, 3, 1, 0), NO_NUMBER)
        self.wrong(LISTS, (1, 0, 3, 1, 1), NO_WORTH)
        self.wrong(LISTS, (1, 0, 3, 1, 2), NO_WORTH)
        self.wrong(LISTS, (1, 0, 3, 1, 3), NO_COUNT)
        self.wrong(LISTS, (1, 0, 3, 1, 4), NO_COUNT)


class HeadRows(Contents):
    def test_table_and_next(self):
        self.wrong(HEAD, (1,), NO_NAME)
        self.right(HEAD, (1,), ("a", "abcdef"))
        self.wrong(HEAD, (4,), (*NO_NUMBER, 1, 2, 3))
        self.right(HEAD, (4,), (4, 5, LARGE))
        self.wrong(SMALL_HEAD, (4,), (*NO_NUMBER, 1))
        self.right(SMALL_HEAD, (4,), (2, 3))

    def test_next_is_greater_than_the_numbers_of_elder_shapes(self):
        shapes = (((1, "a", "word", None), (5, "b", "word", None)), ((1, "a", "word", None),))
        for number, told in ((2, False), (4, False), (5, False), (6, True)):
            self.assertIs(is_content((*SMALL_HEAD[:2], shapes, SMALL_HEAD[3], number, *SMALL_HEAD[5:])), told)

    def test_commits_are_one_or_more(self):
        self.wrong(HEAD, (5,), ((), None, 0, "", HEAD[5][0], ((),), (None,)))
        self.wrong(SMALL_HEAD, (5,), ((),))
        for k, row in enumerate(HEAD[5]):
            self.wrong(HEAD, (5, k), (row[:-1], (*row, 0), (), ("commit", *row)))

    def test_numbers_of_commits_rise(self):
        self.right(SMALL_HEAD, (5, 0, 0), (0, 1, LARGE))
        self.wrong(SMALL_HEAD, (5, 0, 0), NO_COUNT)
        self.wrong(HEAD, (5, 0, 0), (3, 7, 8, -1, True, None, "2"))
        self.wrong(HEAD, (5, 1, 0), (2, 0, 7, 8))
        self.wrong(with_place(HEAD, (6,), ()), (5, 2, 0), (3, 2, 0))
        self.right(with_place(HEAD, (6,), ()), (5, 0, 0), (0, 1, 2))
        self.right(HEAD, (5, 1, 0), (3, 4, 6))

    def test_words_of_commits(self):
        words = ("make", "put", "drop", "change", "key", "reshape", "rerule", "gather", "back")
        self.right(HEAD, (5, 1, 1), words)
        self.wrong(HEAD, (5, 1, 1), ("tag", "untag", "let", "", "Put", "none", None, 0, True, (), [], {}, words))

    def test_titles_and_works(self):
        for k in range(3):
            self.right(HEAD, (5, k, 2), (None, "a", "abcdef"))
            self.wrong(HEAD, (5, k, 2), [thing for thing in NO_NAME if thing is not None])
            self.right(HEAD, (5, k, 3), (0, 1, LARGE))
            self.wrong(HEAD, (5, k, 3), NO_COUNT)

    def test_moments_never_fall(self):
        self.wrong(HEAD, (5, 0, 4), (*NO_COUNT, 1, 6))
        self.wrong(HEAD, (5, 1, 4), (*NO_COUNT, 6))
        self.wrong(HEAD, (5, 2, 4), NO_COUNT)
        self.right(HEAD, (5, 1, 4), (0, 1, 5))
        self.right(HEAD, (5, 2, 4), (0, 5, LARGE))
        self.right(SMALL_HEAD, (5, 0, 4), (0, 3, LARGE))

    def test_lists_shapes_and_rules_of_commits(self):
        for k in range(3):
            self.wrong(HEAD, (5, k, 5), no_files("s"))
            self.right(HEAD, (5, k, 5), ("s1", "s90"))
            for place in (6, 7):
                self.right(HEAD, (5, k, place), (0, 1, 2))
                self.wrong(HEAD, (5, k, place), (*NO_COUNT, 3, LARGE))
        for place in (6, 7):
            self.right(SMALL_HEAD, (5, 0, place), (0,))
            self.wrong(SMALL_HEAD, (5, 0, place), (1, -1))

    def test_tags(self):
        self.right(HEAD, (6,), ((), (("a", 2),), (("a", 7), ("b", 2), ("ba", 3))))
        self.wrong(HEAD, (6,), (None, 0, "", ("a", 2), ((),), (None,), (("a",),), (("a", 2, 2),), ("ab",)))
        self.wrong(HEAD, (6,), ((("b", 2), ("a", 2)), (("a", 2), ("a", 2)), (("a", 2), ("a", 3)),
                                (("a", 2), ("c", 2), ("b", 2))))
        self.wrong(HEAD, (6, 0, 0), (*NO_NAME, "old", "z"))
        self.wrong(HEAD, (6, 1, 1), (*NO_COUNT, 0, 1, 4, 6, 8, LARGE))
        self.wrong(with_place(HEAD, (5, 0, 0), 0), (6,), ((("a", False),), (("a", 2),)))

    def test_a_truth_is_no_number_of_a_commit(self):
        head = with_place(SMALL_HEAD, (5, 0, 0), 1)
        self.right(head, (6,), ((("a", 1),),))
        self.wrong(head, (6,), ((("a", True),),))

    def test_done(self):
        self.right(HEAD, (7,), ((), (("a", 0, 0),), (("a", LARGE, LARGE), ("b", 1, 2), ("ba", 5, 90))))
        self.wrong(HEAD, (7,), (None, 0, "", ("a", 2, 2), ((),), (None,), (("a", 1),), (("a", 1, 2, 2),), ("abc",)))
        self.wrong(HEAD, (7,), ((("b", 2, 2), ("a", 2, 2)), (("a", 2, 2), ("a", 2, 2)), (("a", 2, 2), ("a", 3, 3))))
        self.wrong(HEAD, (7, 0, 0), (*NO_NAME, "bob", "z"))
        for place in (1, 2):
            self.wrong(HEAD, (7, 0, place), NO_COUNT)
            self.wrong(HEAD, (7, 1, place), NO_COUNT)


class HeadShapes(Contents):
    def of_shapes(self, *shapes, rules=((),), next_number=9):
        commit = (0, "make", None, 0, 0, "s1", 0, 0)
        return is_content(("head", "a", shapes, rules, next_number, (commit,), (), ()))

    def test_shapes_are_one_or_more(self):
        self.wrong(HEAD, (2,), ((), None, 0, "", HEAD[2][0], ((),), (None,)))
        self.wrong(SMALL_HEAD, (2,), ((),))
        self.assertIs(self.of_shapes(*[((1, "a", "word", ""),)] * 30), True)

    def test_each_is_a_shape(self):
        column = (1, "a", "small", 7)
        self.assertIs(self.of_shapes((column,)), True)
        for wrong in ((column[:3],), ((*column, 7),), (column, (1, "b", "small", 7)), (column, (2, "a", "small", 7)),
                      ((0, *column[1:]),), ((1, "A", "small", 7),), ((1, "a", "wide", 7),), ((1, "a", "small", 100),),
                      ((True, *column[1:]),), (list(column),)):
            self.assertIs(self.of_shapes(wrong), False, wrong)
            self.assertIs(self.of_shapes((column,), wrong), False, wrong)
        nine = tuple((k, "abcdefghi"[k - 1], "small", 7) for k in range(1, 10))
        self.assertIs(self.of_shapes(nine[:8]), True)
        self.assertIs(self.of_shapes(nine, next_number=10), False)

    def test_one_fill_for_one_number(self):
        for fill in (1, -1, None, 99):
            self.assertIs(self.of_shapes(((1, "a", "small", 0),), ((1, "a", "small", fill),)), False)
            self.assertIs(self.of_shapes(((1, "a", "small", 0),), ((1, "a", "small", 0),), ((1, "a", "whole", fill),)), False)
        self.assertIs(self.of_shapes(((1, "a", "word", ""),), ((1, "a", "word", None),)), False)
        self.assertIs(self.of_shapes(((1, "a", "word", None),), ((1, "b", "word", None),)), True)

    def test_kinds_stay_or_widen(self):
        wider = {("small", "whole"), ("sign", "word")}
        for kind in ("small", "whole", "sign", "word"):
            for other in ("small", "whole", "sign", "word"):
                told = self.of_shapes(((1, "a", kind, None),), ((1, "a", other, None),))
                self.assertIs(told, kind == other or (kind, other) in wider)
        kinds = [((1, "a", kind, None),) for kind in ("small", "whole", "small")]
        self.assertIs(self.of_shapes(*kinds), False)
        self.assertIs(self.of_shapes(kinds[0], kinds[0], kinds[1], kinds[1]), True)

    def test_of_one_number_not_of_one_name_or_place(self):
        one, other = (1, "a", "small", 0), (2, "b", "word", "x")
        self.assertIs(self.of_shapes((one, other), ((2, "a", "word", "x"), (1, "b", "whole", 0))), True)
        self.assertIs(self.of_shapes((one, other), ((2, "a", "small", 0), (1, "b", "word", "x"))), False)

    def test_a_number_that_goes_does_not_come_again(self):
        one, other = (1, "a", "small", 0), (2, "b", "word", "x")
        self.assertIs(self.of_shapes((one, other), (one,), (one,)), True)
        self.assertIs(self.of_shapes((one, other), (one,), (one, other)), False)
        self.assertIs(self.of_shapes((one, other), (one,), (one,), (other, one)), False)
        self.assertIs(self.of_shapes((one, other), (other,), (one,)), False)
        self.assertIs(self.of_shapes((one,), (other,), (other, (3, "a", "small", 0))), True)

    def test_a_number_may_come_late_in_any_order(self):
        self.assertIs(self.of_shapes(((5, "a", "small", 0),), ((5, "a", "small", 0), (3, "b", "small", 0))), True)

    def test_rules(self):
        shape = ((1, "a", "word", None),)
        for rules in (((),), ((), ()), (((90, ("same",)),),), (((2, ("first", 8)), (1, ("range", 5)), (3, ("rest", 1))),)):
            self.assertIs(self.of_shapes(shape, rules=rules), True, rules)
        same = ("same",)
        for rule in (None, 0, "", [], (1, same), ((0, same),), ((-1, same),), ((True, same),), (("a", same),),
                     ((None, same),), ((1, same), (1, same)), ((1, same), (2, same), (3, same), (4, same)), ((1,),),
                     ((1, same, 0),), ((1, ("same", 0)),), ((1, ("range", 0)),), ((1, ("range", 1001)),),
                     ((1, ("rest", 0)),), ((1, ("rest", 101)),), ((1, ("first", 0)),), ((1, ("first", 9)),),
                     ((1, ("range", True)),), ((1, ("range",)),), ((1, "same"),), ((1, ["same"]),), ([1, same],)):
            self.assertIs(self.of_shapes(shape, rules=(rule,)), False, rule)
            self.assertIs(self.of_shapes(shape, rules=((), rule)), False, rule)
        for rules in ((), None, 0, "", [()], ((1, same),)):
            self.assertIs(self.of_shapes(shape, rules=rules), False, rules)


if __name__ == "__main__":
    unittest.main()
