"""Promise 21: the plain table."""

import unittest

from refusing import Refusing
from stillfiles.errors import Full, Last, NoChange, NoColumn, NoCommit, NoCond, NoDeed, NoFit, NoRow, NoRule, NoShape
from stillfiles.errors import Taken, Used
from stillfiles.plain import Plain
from things import ANYTHING, LARGE

COLUMNS = (("name", "word", ""), ("many", "small", 0))
SHAPE = ((1, "name", "word", ""), (2, "many", "small", 0))
FRUIT = (("pear", 12), ("apple", 3), (None, None), ("fig", 3), ("apple", 3))
RISEN = ((None, None), ("apple", 3), ("apple", 3), ("fig", 3), ("pear", 12))
WORDS = ("put", "drop", "change", "key", "reshape", "rerule", "gather", "back")
LENGTHS = {"put": 2, "drop": 2, "change": 4, "key": 3, "reshape": 2, "rerule": 2, "gather": 1, "back": 2}
# A deed of each word that the table of SHAPE does, and one that it refuses.
DONE = (("put", ()), ("drop", ()), ("change", (), "many", 1), ("key", "many", 1), ("reshape", ()), ("rerule", ()),
        ("gather",), ("back", 0))


def table(*deeds, columns=COLUMNS, rule=()):
    plain = Plain(columns, rule=rule)
    for deed in deeds:
        plain.do(deed)
    return plain


class Made(Refusing):
    def test_at_first(self):
        for plain in (Plain(COLUMNS), Plain(columns=COLUMNS, rule=())):
            self.assertEqual((plain.shape(), plain.rule(), plain.rows(), len(plain)), (SHAPE, (), (), 0))
            self.assertEqual((plain.rows(at=0), plain.shape(at=0)), ((), SHAPE))
        rule = (("many", ("range", 5)), ("name", ("same",)))
        self.assertEqual(Plain(COLUMNS, rule=rule).rule(), ((2, ("range", 5)), (1, ("same",))))

    def test_no_shape(self):
        wrong = ((("a", "word", 1),), (("a", "small", None), ("a", "word", None)), (("A", "word", ""),), (("a", "word"),),
                 ((1, "a", "word", ""),), tuple([(name, "word", "") for name in "abcdefghi"]), [("a", "word", "")],
                 (["a", "word", ""],), (("a", "none", ""),), (("a", "small", True),), (("a", "word", ""), ()))
        for columns in (*wrong, *ANYTHING):
            self.refused(NoShape, lambda: Plain(columns, rule=7))

    def test_rule(self):
        for thing in ANYTHING:
            if thing != ():
                self.refused(NoRule, lambda: Plain(COLUMNS, rule=thing))
        self.refused(NoColumn, lambda: Plain(COLUMNS, rule=(("nay", ("same",)),)), name="nay")
        self.refused(NoFit, lambda: Plain(COLUMNS, rule=(("name", ("range", 2)),)), name="name")


class Deeds(Refusing):
    def test_put(self):
        plain = Plain(COLUMNS)
        self.assertIsNone(plain.do(("put", FRUIT)))
        self.assertEqual((plain.rows(), len(plain)), (RISEN, 1))
        plain.do(deed=("put", (("fig", None),)), base=None)
        plain.do(("put", ()))
        self.assertEqual(plain.rows(), (*RISEN[:3], ("fig", None), *RISEN[3:]))
        self.assertEqual(len(plain), 3)

    def test_drop(self):
        self.assertEqual(table(("put", FRUIT), ("drop", (("many", "is", 3),))).rows(), ((None, None), ("pear", 12)))
        self.assertEqual(table(("put", FRUIT), ("drop", (("many", "is", 3), ("name", "from", "b")))).rows(),
                         ((None, None), ("apple", 3), ("apple", 3), ("pear", 12)))
        self.assertEqual(table(("put", FRUIT), ("drop", ())).rows(), ())

    def test_change(self):
        changed = table(("put", FRUIT), ("change", (("many", "is", 3),), "name", "kiwi"))
        self.assertEqual(changed.rows(), ((None, None), ("kiwi", 3), ("kiwi", 3), ("kiwi", 3), ("pear", 12)))
        blank = table(("put", FRUIT), ("change", (), "many", None))
        self.assertEqual(blank.rows(names=("many",)), ((None,),) * 5)

    def test_key(self):
        self.assertEqual(table(("put", FRUIT), ("key", "many", 3)).rows(), ((None, None), ("pear", 12)))
        self.assertEqual(table(("put", FRUIT), ("key", "name", None)).rows(), RISEN[1:])
        self.assertEqual(table(("key", "many", 3), ("put", FRUIT)).rows(), RISEN)

    def test_reshape(self):
        plain = table(("put", FRUIT[:2]), ("reshape", (("out", "many"), ("add", "mark", "sign", "x"))))
        self.assertEqual(plain.shape(), ((1, "name", "word", ""), (3, "mark", "sign", "x")))
        self.assertEqual(plain.rows(), (("apple", "x"), ("pear", "x")))
        plain.do(("put", (("fig", "a"),)))
        plain.do(("reshape", (("name", "name", "title"), ("add", "many", "small", 7))))
        self.assertEqual(plain.shape(), ((1, "title", "word", ""), (3, "mark", "sign", "x"), (4, "many", "small", 7)))
        self.assertEqual(plain.rows(), (("apple", "x", 7), ("fig", "a", 7), ("pear", "x", 7)))

    def test_a_fill_is_for_tests_and_keys_too(self):
        deeds = (("put", FRUIT[:2]), ("reshape", (("add", "mark", "sign", "x"),)), ("put", (("fig", 1, None),)))
        self.assertEqual(table(*deeds, ("drop", (("mark", "is", "x"),))).rows(), (("fig", 1, None),))
        self.assertEqual(table(*deeds, ("key", "mark", "x")).rows(), (("fig", 1, None),))
        self.assertEqual(table(*deeds, ("change", (("mark", "below", "y"),), "mark", "b")).rows(),
                         (("apple", 3, "b"), ("fig", 1, None), ("pear", 12, "b")))

    def test_a_column_put_out_and_in_anew(self):
        plain = table(("put", FRUIT[:2]), ("reshape", (("out", "many"),)), ("reshape", (("add", "many", "small", -1),)))
        self.assertEqual(plain.shape(), ((1, "name", "word", ""), (3, "many", "small", -1)))
        self.assertEqual(plain.rows(), (("apple", -1), ("pear", -1)))
        plain.do(("back", 1))
        self.assertEqual(plain.rows(), (("apple", -1), ("pear", -1)))
        self.assertEqual(plain.rows(at=1), (("apple", 3), ("pear", 12)))

    def test_rerule(self):
        plain = table(("rerule", (("many", ("rest", 3)),)), ("put", FRUIT))
        self.assertEqual((plain.rule(), plain.rows()), (((2, ("rest", 3)),), RISEN))
        plain.do(("rerule", ()))
        self.assertEqual(plain.rule(), ())

    def test_gather(self):
        plain = table(("put", FRUIT), ("gather",))
        self.assertEqual((plain.rows(), len(plain), plain.shape(), plain.rule()), (RISEN, 2, SHAPE, ()))

    def test_back(self):
        deeds = (("put", FRUIT[:1]), ("put", FRUIT[1:]), ("drop", ()), ("reshape", (("out", "name"),)))
        for many, rows in ((0, ()), (1, ((12,),)), (2, ((None,), (3,), (3,), (3,), (12,))), (3, ()), (4, ())):
            plain = table(*deeds, ("back", many))
            self.assertEqual((plain.rows(), len(plain)), (rows, 5))
        plain = table(*deeds, ("back", 2), ("put", ((5,),)), ("back", 6), ("back", 4))
        self.assertEqual((plain.rows(), plain.rows(at=7)), ((), ((None,), (3,), (3,), (3,), (5,), (12,))))

    def test_back_leaves_shape_and_rule(self):
        plain = table(("rerule", (("many", ("same",)),)), ("reshape", (("add", "mark", "sign", "x"),)), ("back", 0))
        self.assertEqual((len(plain.shape()), plain.rule()), (3, ((2, ("same",)),)))


class Bases(Refusing):
    def test_rows_of_an_elder_shape(self):
        plain = table(("reshape", (("out", "many"), ("add", "mark", "sign", "x"), ("widen", "mark", "word"))))
        plain.do(("put", (("fig", 99),)), base=0)
        plain.do(("put", (("fig", "abc"),)), base=1)
        plain.do(("put", (("fig", "b"),)))
        self.assertEqual(plain.rows(), (("fig", "abc"), ("fig", "b"), ("fig", "x")))
        self.refused(NoRow, lambda: plain.do(("put", (("fig", 99),)), base=1), place=0)
        self.refused(NoRow, lambda: plain.do(("put", (("fig", "abc"),)), base=0), place=0)

    def test_names_and_kinds_of_an_elder_shape(self):
        plain = table(("put", FRUIT), ("reshape", (("name", "many", "count"), ("name", "name", "many"))),
                      ("reshape", (("widen", "count", "whole"),)))
        plain.do(("drop", (("many", "is", 12),)), base=1)
        self.assertEqual(plain.rows(), ((None, None), ("apple", 3), ("apple", 3), ("fig", 3)))
        plain.do(("change", (("name", "is", "fig"),), "many", 5), base=0)
        plain.do(("key", "name", "apple"), base=1)
        self.assertEqual(plain.rows(), ((None, None), ("fig", 5)))
        self.refused(NoFit, lambda: plain.do(("change", (), "many", 100), base=1), name="many")
        self.refused(NoFit, lambda: plain.do(("key", "many", 100), base=1), name="many")
        self.refused(NoColumn, lambda: plain.do(("key", "count", 1), base=1), name="count")
        self.refused(NoFit, lambda: plain.do(("key", "count", 100), base=2), name="count")
        plain.do(("change", (), "count", 100), base=3)
        self.assertEqual(plain.rows(), ((None, 100), ("fig", 100)))

    def test_a_column_that_is_not_there_any_more(self):
        plain = table(("reshape", (("name", "many", "count"), ("add", "mark", "sign", "x"))),
                      ("reshape", (("out", "count"), ("out", "mark"), ("add", "many", "small", 1))))
        gone = (
            (("drop", (("name", "is", ""), ("mark", "is", "x"), ("count", "is", 1))), "mark"),
            (("change", (("count", "is", 1),), "mark", "x"), "count"), (("change", (), "mark", "x"), "mark"),
            (("key", "count", 1), "count"),
        )
        for deed, name in gone:
            self.refused(NoColumn, lambda: plain.do(deed, base=1), name=name)
        self.refused(NoColumn, lambda: plain.do(("key", "many", 1), base=0), name="many")
        # What the deed itself is refused with goes ahead.
        self.refused(NoFit, lambda: plain.do(("change", (("count", "is", 1),), "mark", "xy"), base=1), name="mark")
        self.refused(NoFit, lambda: plain.do(("key", "count", "x"), base=1), name="count")
        self.assertEqual(len(plain), 2)

    def test_of_the_other_four_it_is_of_no_use(self):
        plain = table(("reshape", (("name", "many", "count"),)), ("put", (("fig", 1),)))
        plain.do(("reshape", (("name", "count", "sum"),)), base=0)
        plain.do(("rerule", (("sum", ("same",)),)), base=0)
        plain.do(("gather",), base=1)
        plain.do(("back", 5), base=0)
        self.assertEqual((plain.rows(), plain.rule(), len(plain)), ((("fig", 1),), ((2, ("same",)),), 6))


class Refused(Refusing):
    def test_no_deed(self):
        wrong = [(word, *[()] * many) for word in WORDS for many in range(6) if many + 1 != LENGTHS[word]]
        wrong += [[*deed] for deed in DONE] + [("make",), ("tag", 1), ("putt", ()), ("PUT", ()), (["put"], ()), ({}, ())]
        plain = Plain(COLUMNS)
        for thing in (*wrong, *ANYTHING):
            for base in (None, 9, True):
                with self.assertRaises(NoDeed) as caught:
                    plain.do(thing, base=base)
                self.assertIs(caught.exception.deed, thing)
        self.assertEqual(len(plain), 0)

    def test_base(self):
        plain = table(("put", FRUIT))
        for deed in (*DONE, ("put", 7), ("drop", 7), ("change", 7, 7, 7), ("key", 7, 7), ("reshape", 7), ("rerule", 7),
                     ("back", 7)):
            for base in (2, -1, *[thing for thing in ANYTHING if thing not in (None, 0, 1)], True, False):
                with self.assertRaises(NoCommit) as caught:
                    plain.do(deed, base=base)
                self.assertIs(caught.exception.number, base)
        self.assertEqual((len(plain), plain.rows()), (1, RISEN))

    def test_put(self):
        plain = Plain(COLUMNS)
        for thing in ANYTHING:
            if not isinstance(thing, tuple):
                self.refused(NoRow, lambda: plain.do(("put", thing)), place=-1)
            if thing != ("a", 1):
                self.refused(NoRow, lambda: plain.do(("put", (("a", 1), thing, thing))), place=1)
        for row in (("a",), ("a", 1, 1), (1, 1), ("a", 100), ("a", True), ["a", 1]):
            self.refused(NoRow, lambda: plain.do(("put", (row,))), place=0)

    def test_conditions(self):
        plain = Plain(COLUMNS)
        for deed in (lambda where: ("drop", where), lambda where: ("change", where, 7, 7)):
            for thing in ANYTHING:
                if thing != ():
                    self.refused(NoCond, lambda: plain.do(deed(thing)))
            self.refused(NoColumn, lambda: plain.do(deed((("name", "is", 1), ("nay", "is", 1)))), name="nay")

    def test_names_and_worths(self):
        plain = Plain(COLUMNS)
        for deed in (lambda name, worth: ("change", (), name, worth), lambda name, worth: ("key", name, worth)):
            for thing in ANYTHING:
                with self.assertRaises(NoColumn) as caught:
                    plain.do(deed(thing, thing))
                self.assertIs(caught.exception.name, thing)
                if not (thing is None or (thing in (0, 1, -1, 2, 7) and not isinstance(thing, bool))):
                    self.refused(NoFit, lambda: plain.do(deed("many", thing)), name="many")

    def test_reshape(self):
        plain = table(("rerule", (("many", ("same",)),)))
        for thing in ANYTHING:
            if not isinstance(thing, tuple) or len(thing) > 4:
                self.refused(NoChange, lambda: plain.do(("reshape", thing)), place=-1)
        self.refused(NoChange, lambda: plain.do(("reshape", (("out", "many"), ("out",)))), place=1)
        self.refused(Used, lambda: plain.do(("reshape", (("out", "many"),))), name="many")
        self.refused(Used, lambda: plain.do(("reshape", (("name", "many", "a"), ("out", "a")))), name="a")
        self.refused(Used, lambda: plain.do(("reshape", (("out", "name"), ("out", "many")))), name="many")
        self.refused(NoColumn, lambda: plain.do(("reshape", (("out", "nay"), ("out", "many")))), name="nay")
        self.refused(Taken, lambda: plain.do(("reshape", (("name", "many", "name"),))), name="name")
        self.refused(NoFit, lambda: plain.do(("reshape", (("widen", "name", "word"),))), name="name")
        plain.do(("rerule", ()))
        self.refused(Last, lambda: plain.do(("reshape", (("out", "many"), ("out", "name")))))
        full = Plain(tuple([(name, "small", 0) for name in "abcdefgh"]))
        self.refused(Full, lambda: full.do(("reshape", (("add", "i", "small", 0),))))
        self.assertEqual((plain.shape(), len(plain)), (SHAPE, 2))
        plain.do(("reshape", (("add", "more", "sign", None),)))
        self.assertEqual(plain.shape()[2][0], 3)

    def test_rerule(self):
        plain = table(("rerule", (("many", ("same",)),)))
        for thing in ANYTHING:
            if thing != ():
                self.refused(NoRule, lambda: plain.do(("rerule", thing)))
        self.refused(NoColumn, lambda: plain.do(("rerule", (("nay", ("same",)),))), name="nay")
        self.refused(NoFit, lambda: plain.do(("rerule", (("many", ("first", 1)),))), name="many")
        self.assertEqual((plain.rule(), len(plain)), (((2, ("same",)),), 1))

    def test_back(self):
        plain = table(("put", FRUIT))
        for many in (2, -1, LARGE, True, False, *[thing for thing in ANYTHING if thing not in (0, 1)]):
            with self.assertRaises(NoCommit) as caught:
                plain.do(("back", many))
            self.assertIs(caught.exception.number, many)

    def test_nothing_is_done(self):
        plain = table(("put", FRUIT), rule=(("name", ("same",)),))
        for deed in (("put", (("a", 1), 7)), ("drop", 7), ("change", (), "many", "a"), ("key", "nay", 1), ("back", 9),
                     ("reshape", (("out", "many"), ("out", "name"))), ("rerule", 7), ("gather", 1)):
            self.assertRaises((ValueError, KeyError), plain.do, deed)
        self.assertEqual((plain.rows(), plain.shape(), len(plain)), (RISEN, SHAPE, 1))
        self.assertEqual(plain.rule(), ((1, ("same",)),))
        plain.do(("reshape", (("add", "mark", "sign", "x"),)))
        self.assertEqual(plain.shape()[2][0], 3)


class Told(Refusing):
    def setUp(self):
        self.plain = table(("put", FRUIT), ("reshape", (("out", "many"), ("add", "mark", "sign", "x"))),
                           ("put", (("fig", "a"),)))

    def test_rows_with_at_where_names(self):
        self.assertEqual(self.plain.rows(at=0), ())
        self.assertEqual(self.plain.rows(at=1), RISEN)
        self.assertEqual(self.plain.rows(at=2), ((None, "x"), ("apple", "x"), ("apple", "x"), ("fig", "x"), ("pear", "x")))
        self.assertEqual(self.plain.rows(at=3), self.plain.rows())
        self.assertEqual(self.plain.rows(at=1, where=(("many", "from", 4),)), (("pear", 12),))
        self.assertEqual(self.plain.rows(at=1, names=("many", "name"))[1:3], ((3, "apple"), (3, "apple")))
        self.assertEqual(self.plain.rows(names=("mark",), where=(("name", "is", "fig"),)), (("a",), ("x",)))
        self.assertEqual(self.plain.rows(names=()), ((),) * 6)
        self.assertEqual((self.plain.shape(at=1), self.plain.shape(at=2)), (SHAPE, self.plain.shape()))

    def test_refused_in_order(self):
        for at in (4, -1, True, False, *[thing for thing in ANYTHING if thing not in (None, 0, 1, 2)]):
            for call in (lambda: self.plain.rows(at=at, where=7, names=("nay",)), lambda: self.plain.shape(at=at)):
                with self.assertRaises(NoCommit) as caught:
                    call()
                self.assertIs(caught.exception.number, at)
        for thing in ANYTHING:
            if thing != ():
                self.refused(NoCond, lambda: self.plain.rows(where=thing, names=("nay",)))
        self.refused(NoColumn, lambda: self.plain.rows(where=(("many", "is", 1),), names=("nay",)), name="many")
        self.refused(NoColumn, lambda: self.plain.rows(at=1, where=(("mark", "is", 1),)), name="mark")
        self.refused(NoColumn, lambda: self.plain.rows(names=("mark", "nay", "many")), name="nay")

    def test_equal(self):
        one, other = table(("put", FRUIT)), table(("put", FRUIT[:2]), ("gather",), ("put", FRUIT[2:]))
        self.assertTrue(one == other)
        self.assertFalse(one != other)
        other.do(("rerule", (("many", ("same",)),)))
        self.assertTrue(one == other)
        other.do(("key", "many", 12))
        self.assertFalse(one == other)
        one.do(("drop", (("name", "is", "pear"),)))
        self.assertTrue(one == other)
        one.do(("reshape", (("widen", "many", "whole"),)))
        self.assertFalse(one == other)
        self.assertTrue(table() == table())
        self.assertFalse(table() == table(("reshape", (("out", "many"), ("add", "many", "small", 0)))))
        for thing in (None, 0, (), RISEN, "a"):
            self.assertFalse(one == thing)
            self.assertTrue(one != thing)

    def test_two_share_nothing(self):
        one, other = Plain(COLUMNS), Plain(COLUMNS)
        one.do(("put", FRUIT))
        one.do(("reshape", (("out", "many"),)))
        self.assertEqual((len(other), other.rows(), other.shape()), (0, (), SHAPE))


if __name__ == "__main__":
    unittest.main()
