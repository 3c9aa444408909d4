"""Promise 41: findings."""

import unittest

from right_contents import at_place, paths_of, with_place
from right_files import FILES, with_changed, with_rows_right
from stillfiles.findings import finding_holds
from things import ANYTHING, LARGE

PAIRS = tuple(FILES.items())
# The same table ahead of its last commit, which went back.
HEAD = FILES["h14"]
ELDER = tuple({**{name: content for name, content in FILES.items() if name != "h14"},
               "h15": (*HEAD[:5], HEAD[5][:-1], *HEAD[6:])}.items())

DROP = ("drop", "bob", 2, 1, ((1, "is", "zoo"), (2, "is", 7)), (), (), (("m90", "d1", 1),), (), None)
CHANGE = ("change", "bob", 2, 2, ((1, "is", "zoo"),), (("data", "d90", 1, 0, 0, (), ()),), (), (), (), 3)
KEY = ("key", "bob", 2, 1, None, (), (), (), (("k90", 2, 9),), None)
PUT = ("put", "bob", 2, 0, None, (), (), (), (), None)
GATHER = ("gather", "bob", 2, 2, None, (), ("d1",), (), (), None)
SHAPE = ("reshape", "bob", 2, 1, None, (), (), (), (), (("out", "kind"),))
COLUMNS = (("name", "word", "none"), ("many", "small", 0))
CLAIMS = ((0, 4, ("put", (("fig", 3),)), "done"), (0, 9, ("key", "many", 3), "refused"),
          (2, 5, ("put", (("kiwi", 5),)), "lost"),
          (6, 7, ("read", (("many", "from", 4),)), (("kiwi", 5),)))

ROW = ("row", PAIRS, "h14", 1, ("kiwi", 5), ("l2", "d1", 1))
NONE = ("none", PAIRS, "h14", 2, (("name", "is", "kiwi"), ("many", "is", 5)), (("d1", None), ("d6", 0)))
LED = ("led", ELDER, "h15", DROP[:7] + ((),) + DROP[8:], ("led", ((2, (("d6", 0), ("k7", 1))), (3, ()), (4, ()))))
CLASH = ("clash", PAIRS, "h14", DROP, ("clash", 4, "took", "d1"))
CAN = ("can", COLUMNS, CLAIMS, (0, 2, 3))
RIGHT = (
    ROW, ("row", PAIRS, "h14", 4, ("date", 309, None), ("l12", "d11", 1)),
    ("row", PAIRS, "h14", 5, (None, None, "x"), ("l2", "d1", 2)),
    ("row", ELDER, "h15", 3, ("pear", 300, "q"), ("l8", "d6", 0)),
    NONE, ("none", PAIRS, "h14", 0, (), ()), ("none", PAIRS, "h14", 2, (("many", "is", 5),),
                                              (("d1", None), ("d6", None))),
    LED, ("led", PAIRS, "h14", PUT, ("led", tuple((k, ()) for k in range(1, 6)))),
    ("led", PAIRS, "h14", KEY, ("led", tuple((k, ()) for k in range(2, 6)))),
    ("led", PAIRS, "h14", (*DROP[:3], 5, *DROP[4:]), ("led", ())), ("led", ELDER, "h15", CHANGE,
                                                                    ("led", ((3, ()), (4, ())))),
    CLASH, ("clash", PAIRS, "h14", DROP, ("clash", 5, "back", None)),
    ("clash", PAIRS, "h14", DROP, ("clash", 2, "marked", "d1")),
    ("clash", PAIRS, "h14", GATHER, ("clash", 4, "took", "d1")), ("clash", PAIRS, "h14", GATHER,
                                                                  ("clash", 5, "back", None)),
    ("clash", PAIRS, "h14", SHAPE, ("clash", 3, "shape", None)), ("clash", PAIRS, "h14", CHANGE,
                                                                  ("clash", 5, "back", None)),
    CAN, ("can", COLUMNS, (), ()), ("can", (("a", "sign", None),), ((3, LARGE, ("drop", ((),)), "refused"),), ()),
)


class Findings(unittest.TestCase):
    def holds(self, thing):
        told = finding_holds(thing)
        self.assertIn(told, (True, False))
        return told

    def wrong(self, *things):
        for thing in things:
            self.assertIs(self.holds(thing), False, thing)

    def otherwise(self, finding, place, *things):
        """The finding with other things at a place."""
        self.wrong(*[with_place(finding, (place,), thing) for thing in things])


class Whole(Findings):
    def test_right_ones(self):
        for finding in RIGHT:
            self.assertIs(finding_holds(thing=finding), True, finding)

    def test_one_thing_otherwise_at_each_place(self):
        for finding in (ROW, NONE, LED, CLASH, CAN):
            for path in paths_of(finding):
                there = at_place(finding, path)
                others = [{}, [there], [], (there, there, {})]
                # What was refused may be of any deed that has a word and its length.
                in_refused = finding is CAN and path[:4] == (2, 1, 2, 1) or finding is CAN and path[:4] == (2, 1, 2, 2)
                for other in others:
                    self.assertIs(self.holds(with_place(finding, path, other)), in_refused, (path, other))
                if not in_refused:
                    self.wrong(with_place(finding, path, True), with_place(finding, path, False))
                    if isinstance(there, tuple):
                        self.wrong(with_place(finding, path, list(there)))

    def test_words_and_lengths(self):
        for finding in RIGHT:
            for word in ("row", "none", "led", "clash", "can", "lead", "", None, 1, True, ("row",)):
                if word != finding[0]:
                    self.wrong((word, *finding[1:]))
            self.wrong(finding[1:], finding[:-1], (*finding, None), (*finding, ()), list(finding), (finding,),
                       finding[0])

    def test_of_anything(self):
        for thing in ANYTHING:
            self.wrong(thing)
            for finding in (ROW, NONE, LED, CLASH, CAN):
                for place in range(len(finding)):
                    other = with_place(finding, (place,), thing)
                    self.assertIs(self.holds(other), other == finding and not isinstance(thing, bool))


class Files(Findings):
    OF_FILES = [finding for finding in RIGHT if finding[0] != "can"]

    def test_in_whatever_order(self):
        for finding in self.OF_FILES:
            self.assertIs(self.holds(with_place(finding, (1,), finding[1][::-1])), True)

    def test_files_that_arent_reached(self):
        for finding in self.OF_FILES:
            more = (("d80", True), ("l81", []), ("h82", {}), ("k83", ("key", 0, None)), ("s84", ("lists", ())))
            self.assertIs(self.holds(with_place(finding, (1,), (*more, *finding[1]))), True)
            self.wrong(with_place(finding, (1,), (*finding[1], *more, ("x85", None))))
            for name in ("d0", "d", "D1", "d01", "7", "", None, 7, [], {}, ("d86",)):
                self.wrong(with_place(finding, (1,), (*finding[1], (name, ("key", 1, 1)))))
            for pair in (("d86",), ("d86", 1, 2), ["d86", 1], "d8", None, ()):
                self.wrong(with_place(finding, (1,), (*finding[1], pair)))

    def test_files_named_twice(self):
        for finding in self.OF_FILES:
            for pair in finding[1]:
                self.wrong(with_place(finding, (1,), (*finding[1], pair)),
                           with_place(finding, (1,), (pair, *finding[1])))
            self.wrong(with_place(finding, (1,), (*finding[1], ("d80", None), ("d80", None))))

    def test_a_file_that_lacks_or_is_no_content(self):
        for finding in self.OF_FILES:
            for at, (name, content) in enumerate(finding[1]):
                self.wrong(with_place(finding, (1,), finding[1][:at] + finding[1][at + 1:]))
                self.wrong(with_place(finding, (1, at, 1), content[:-1]),
                           with_place(finding, (1, at, 1), list(content)))

    def test_a_head_that_isnt_right(self):
        for name, path, new in (("d1", (4, 0, 1), 4), ("l2", (1, 0, 3), 2), ("s9", (1, 1, 2), 3), ("k7", (2,), 6),
                                ("m5", (2,), (0, 1, 2)),
                                ("l8", (1, 0, 2), 3), ("d10", (4, 0, 0), "date")):
            for finding in self.OF_FILES:
                self.wrong(with_place(finding, (1,), tuple(with_changed(name, path, new, dict(finding[1])).items())))
        twice = tuple(with_changed("s13", (1,), FILES["s13"][1] * 2, FILES).items())
        self.wrong(*[with_place(finding, (1,), twice) for finding in self.OF_FILES if finding[1] == PAIRS])

    def test_the_heads_file(self):
        for finding in self.OF_FILES:
            self.otherwise(finding, 2, "h99", "s3", "d1", "l2", "", None, 14, HEAD, ("h14",), ["h14"], True, "h",
                           "h014")

    def test_another_right_head(self):
        files = (*PAIRS, ELDER[-1])
        self.assertEqual(ELDER[-1][0], "h15")
        self.assertIs(self.holds(("row", files, "h15", 1, ("kiwi", 5), ("l2", "d1", 1))), True)
        self.assertIs(self.holds(("led", files, *LED[2:])), True)
        self.wrong(("led", files, "h14", *LED[3:]))


class Rows(Findings):
    def test_numbers_rows_papers(self):
        self.otherwise(ROW, 3, 0, 2, 3, 4, 5, 6, -1, LARGE, None, True, "1", (1,))
        self.otherwise(ROW, 4, ("kiwi", 4), ("kiwi",), ("kiwi", 5, "x"), ("kiwi", "5"), ["kiwi", 5], ("kiwi", (5,)),
                       ("Kiwi", 5), (), None)
        self.otherwise(ROW, 5, ("l2", "d1", 0), ("l2", "d1", 2), ("l2", "d1", 3), ("l2", "d1", -2), ("l2", "d1", True),
                       ("l2", "d6", 1), ("l8", "d1", 1),
                       ("l2", "d1"), ("l2", "d1", 1, 1), ["l2", "d1", 1], ("l12", "d10", 0), None, ())
        # It stands there, but is away at the other commits.
        self.wrong(("row", PAIRS, "h14", 2, ("kiwi", 5, "x"), ("l2", "d1", 1)),
                   ("row", PAIRS, "h14", 2, ("fig", 3, "x"), ("l2", "d1", 0)))
        self.assertIs(self.holds(("row", PAIRS, "h14", 5, ("kiwi", 5, "x"), ("l2", "d1", 1))), True)

    def test_truths_in_rows(self):
        files = tuple(with_rows_right({**FILES, "d1": ("data", 0, 0, (), (("fig", 1), ("kiwi", 0), (None, None))),
                                       "l2": with_place(FILES["l2"], (1, 0, 7, 1), (2, 0, 1, 1))}).items())
        for row, at in ((("fig", 1), 0), (("kiwi", 0), 1)):
            self.assertIs(self.holds(("row", files, "h14", 1, row, ("l2", "d1", at))), True)
            self.wrong(("row", files, "h14", 1, (row[0], bool(row[1])), ("l2", "d1", at)),
                       ("row", files, "h14", 1, row, ("l2", "d1", bool(at))))


class Nones(Findings):
    def test_numbers_wheres_papers(self):
        self.otherwise(NONE, 3, 0, 1, 4, 5, 6, None, True, "2")
        self.assertIs(self.holds(with_place(NONE, (3,), 3)), True)
        where = NONE[4]
        self.otherwise(NONE, 4, where[:1] + (("many", "is", True),), where[::-1][:1] + (("kind", "is", 1),),
                       (("mark", "is", "q"),), list(where), where * 3,
                       (("name", "over", "kiwi"),), ((1, "is", "kiwi"), (2, "is", 5)), None, "name")
        self.otherwise(NONE, 5, (("d1", 0), ("d6", 0)), (("d1", 1), ("d6", 0)), (("d1", None), ("d6", 1)),
                       (("d6", 0), ("d1", None)), (("d1", None),),
                       (("d1", None), ("d6", 0), ("d10", 0)), (("d1", None), ("d6", 2)), (("d1", None), ("d6", -1)),
                       (("d1", None), ("d6", False)), (), None)
        self.assertIs(self.holds(with_place(NONE, (5, 1, 1), None)), True)
        self.assertIs(self.holds(with_place(NONE, (4,), where[::-1])), False)
        self.assertIs(self.holds((*NONE[:4], where[::-1], (("d1", None), ("d6", 1)))), True)


class Works(Findings):
    def test_works_by_form(self):
        for finding in (LED, CLASH):
            work = finding[3]
            self.otherwise(finding, 3, list(work), work[:-1], (*work, None), ("make", *work[1:]), (*work[:9], 0),
                           (*work[:4], None, *work[5:]),
                           (*work[:2], 0, *work[3:]), (work[0], "Bob", *work[2:]), (*work[:4], work[4] * 3, *work[5:]),
                           (*work[:5], (("data",),), *work[6:]),
                           (*work[:7], (("m90", "d1", 0),), *work[8:]), (*work[:7], (("m90", "d1", 1),) * 2, *work[8:]),
                           None, DROP[4])

    def test_each_number_from_base_on(self):
        for finding in (LED, CLASH):
            work = finding[3]
            bases = (0, 2, 3, 6, LARGE, -1, None, True) if finding is LED else (4, 5, 6, LARGE, -1, None, True)
            self.wrong(*[with_place(finding, (3, 3), base) for base in bases])
        gap = with_changed("h14", (5, 3, 0), 2, FILES)
        self.wrong(("led", tuple(gap.items()), "h14", (*PUT[:3], 5, *PUT[4:]), ("led", ())))
        head = (*HEAD[:5], (*HEAD[5][:3], (7, *HEAD[5][4][1:])), (), ())
        files = tuple({**FILES, "h14": head}.items())
        self.assertIs(self.holds(("row", files, "h14", 7, ("date", 309, None), ("l12", "d11", 1))), True)
        for base in (0, 1, 2, 3, 6):
            for rows in ((), ((7, ()),), ((2, ()), (7, ())), tuple((k, ()) for k in range(base + 1, 8))):
                self.wrong(("led", files, "h14", (*PUT[:3], base, *PUT[4:]), ("led", rows)))
            self.wrong(("clash", files, "h14", (*DROP[:3], base, *DROP[4:]), ("clash", 7, "took", "d1")))
        self.assertIs(self.holds(("led", files, "h14", (*PUT[:3], 7, *PUT[4:]), ("led", ()))), True)

    def test_columns_of_the_bases_shape(self):
        """At base 1 there are the columns 1 and 2, from 2 on 3, too."""
        for base, is_right in ((1, False), (2, True)):
            rows = ("led", tuple((k, ()) for k in range(base + 1, 5)))
            key = (*KEY[:3], base, *KEY[4:8], (("k90", 3, "a"),), None)
            self.assertIs(self.holds(("led", ELDER, "h15", key, rows)), is_right)
            clash = ("clash", PAIRS, "h14", (*DROP[:3], base, ((3, "is", "a"),), *DROP[5:]), ("clash", 5, "back", None))
            self.assertIs(self.holds(clash), is_right)
            clash = ("clash", PAIRS, "h14", (*CHANGE[:3], base, *CHANGE[4:]), ("clash", 5, "back", None))
            self.assertIs(self.holds(clash), is_right)
        for number in (3, 4, 99):
            self.wrong(("led", PAIRS, "h14", (*KEY[:8], (("k90", number, 9),), None),
                        ("led", tuple((k, ()) for k in range(2, 6)))))
        # What a reshape, a rerule name isn't asked for.
        rule = ("rerule", "bob", 2, 4, None, (), (), (), (), ((77, ("same",)),))
        self.assertIs(self.holds(("led", PAIRS, "h14", rule, ("led", ((5, ()),)))), True)

    def test_papers(self):
        self.otherwise(LED, 4, ("led", LED[4][1][:-1]), ("led", (*LED[4][1], (5, ()))), ("led", ()), LED[4][1],
                       ("clash", LED[4][1]), list(LED[4]),
                       with_place(LED[4], (1, 0, 1, 0, 1), 2), with_place(LED[4], (1, 0, 1, 1, 1), 0), CLASH[4], None)
        # The number 7 lies in the span of d6, so the second test shows nothing of it.
        self.wrong(with_place(LED, (4, 1, 0, 1, 0, 1), 1))
        more = with_place(LED, (3, 4), (*DROP[4], (1, "is", "quince")))
        self.assertIs(self.holds(more) and self.holds(with_place(more, (4, 1, 0, 1, 0, 1), 2)), True)
        self.otherwise(CLASH, 4, ("clash", 4, "took", "d6"), ("clash", 4, "marked", "d1"), ("clash", 3, "took", "d1"),
                       ("clash", 4, "took"),
                       ("led", 4, "took", "d1"), CLASH[4][1:], list(CLASH[4]), ("clash", 4, "took", None), LED[4],
                       ("clash", 1, "put", "d1"), None)


class Can(Findings):
    def test_columns(self):
        self.otherwise(CAN, 1, (), COLUMNS[:1], COLUMNS[::-1], list(COLUMNS), (COLUMNS[0],) * 2,
                       (("Name", "word", ""), COLUMNS[1]), None,
                       ((1, *COLUMNS[0]), (2, *COLUMNS[1])), (COLUMNS[0], ("many", "small", 100)),
                       (COLUMNS[0], ("many", "tiny", 0)), "name",
                       tuple((name, "word", "") for name in "abcdefghi"))

    def test_claims_by_form(self):
        put = CLAIMS[0]
        for claim in ((-1, *put[1:]), (4, *put[1:]), (5, *put[1:]), (True, *put[1:]), ("0", *put[1:]),
                      (0, None, *put[2:]), put[:3], (*put, 1), list(put),
                      (*put[:2], ("put",), "done"), (*put[:2], ("put", (), ()), "done"), (*put[:2], ("drop",), "lost"),
                      (*put[:2], ["put", ()], "done"),
                      (*put[:2], ("gather",), "done"), (*put[:2], ("reshape", ()), "refused"),
                      (*put[:2], ("rerule", ()), "done"), (*put[:2], ("back", 0), "done"),
                      (*put[:2], ("change", (), "many"), "lost"), (*put[:2], ("key", "many"), "refused"),
                      (*put[:2], (), "done"), (*put[:2], None, "done"),
                      (*put[:3], "Done"), (*put[:3], None), (*put[:3], ()), (*put[:3], ["done"]),
                      (0, 1, ("read", ()), "done"), (0, 1, ("read", ()), [()]),
                      (0, 1, ("read", ()), (("a", True),)), (0, 1, ("read", ()), (["a", 1],)),
                      (0, 1, ("read", ()), (1,)), (0, 1, ("read",), ()),
                      (0, 1, ("read", (), ()), ()), (0, 1, ("read", ()), None), (0, 1, ("write", ()), "done"),
                      ((), 1, ("put", ()), "done")):
            self.wrong(("can", COLUMNS, (claim,), (0,)), ("can", COLUMNS, (claim,), ()),
                       ("can", COLUMNS, (*CLAIMS, claim), (0, 2, 3)))

    def test_whatever_else_stands_in_a_deed(self):
        for thing in ANYTHING:
            for deed in (("put", thing), ("drop", thing), ("change", thing, thing, thing), ("key", thing, thing)):
                is_one = deed == ("put", ()) or deed == ("drop", ())
                for told, paper, right in (("refused", (), True), ("lost", (), True), ("refused", (0,), False),
                                           ("lost", (0,), is_one), ("done", (0,), is_one)):
                    self.assertIs(self.holds(("can", COLUMNS, ((0, 1, deed, told),), paper)), right,
                                  (deed, told, paper))

    def test_a_reads_condition_that_is_refused(self):
        for where in ((("kind", "is", 1),), (("many", "is", True),), None, [], (1,), {}):
            claims = (*CLAIMS, (0, 1, ("read", where), ()))
            for paper in ((0, 2, 3), (4, 0, 2, 3), (0, 2, 3, 4)):
                self.wrong(("can", COLUMNS, claims, paper))
        self.assertIs(self.holds(("can", COLUMNS, (*CLAIMS, (0, 1, ("read", (("many", "is", 1),)), ())), (4, 0, 2, 3))),
                      True)

    def test_claims(self):
        self.otherwise(CAN, 2, CLAIMS[:-1], CLAIMS[::-1], list(CLAIMS), dict(enumerate(CLAIMS)), None, (), (None,) * 4,
                       CLAIMS[0])
        self.otherwise(CAN, 3, (0, 3), (2, 3), (0, 2), (0, 1, 2, 3), (0, 3, 2), (3, 2, 0), [0, 2, 3], (0, 2, 3, 3),
                       (0, 2, 3, 4), (False, 2, 3), None, ())
        self.assertIs(self.holds(with_place(CAN, (3,), (2, 0, 3))), True)

    def test_more_claims_than_are_handed_in(self):
        claims = tuple((k, k + 1, ("put", (("fig", k % 9),)), "done") for k in range(3_000))
        self.assertIs(self.holds(("can", COLUMNS, claims, tuple(range(3_000)))), True)
        self.wrong(("can", COLUMNS, claims, (*range(2_998), 2_999, 2_998)))


if __name__ == "__main__":
    unittest.main()
