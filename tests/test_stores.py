"""Promise 22: a Store, its tables and its Writers' titles."""

import unittest

from refusing import Refusing
from stillfiles.errors import Crash, Missing, NoColumn, NoFit, NoName, NoRule, NoShape, NoTable, StillError, Taken
from stillfiles.stores import Store
from stillfiles.writers import Writer
from things import ANYTHING

COLUMNS = (("name", "word", ""), ("many", "small", 0))
SHAPE = ((1, "name", "word", ""), (2, "many", "small", 0))
NAMES = ("a", "ab", "abcdef")


class Make(Refusing):
    def test_what_it_writes(self):
        store = Store()
        store.wait(3)
        self.assertIsNone(store.make("fruit", COLUMNS))
        shelf = store.shelf()
        head = ("head", "fruit", (SHAPE,), ((),), 3, ((0, "make", None, 0, 3, "s1", 0, 0),), (), ())
        self.assertEqual((shelf.names(), shelf.steps(), shelf.pointed("fruit")), (("s1", "h2"), 3, "h2"))
        self.assertEqual((shelf.read("s1"), shelf.read("h2"), store.head("fruit")), (("lists", ()), head, head))
        store.make(table="nut", columns=COLUMNS[:1], rule=(("name", ("first", 2)),))
        head = ("head", "nut", (SHAPE[:1],), (((1, ("first", 2)),),), 2, ((0, "make", None, 0, 3, "s3", 0, 0),), (), ())
        self.assertEqual((shelf.names(), store.head(table="nut")), (("s1", "h2", "s3", "h4"), head))
        self.assertEqual((store.tables(), len(store)), (("fruit", "nut"), 2))

    def test_refused_in_order(self):
        store = Store()
        store.make("fruit", COLUMNS)
        steps = store.shelf().steps()
        for thing in ANYTHING:
            if thing not in NAMES:
                with self.assertRaises(NoName) as caught:
                    store.make(thing, 7, rule=7)
                self.assertIs(caught.exception.name, thing)
            self.refused(NoShape, lambda: store.make("nut", thing, rule=7))
            if thing != ():
                self.refused(NoRule, lambda: store.make("nut", COLUMNS, rule=thing))
        self.refused(Taken, lambda: store.make("fruit", 7, rule=7), name="fruit")
        self.refused(NoColumn, lambda: store.make("nut", COLUMNS, rule=(("nay", ("same",)),)), name="nay")
        self.refused(NoFit, lambda: store.make("nut", COLUMNS, rule=(("many", ("first", 1)),)), name="many")
        self.assertEqual((store.shelf().steps(), store.tables(), len(store)), (steps, ("fruit",), 1))

    def test_tables_rise(self):
        store = Store()
        self.assertEqual((store.tables(), len(store)), ((), 0))
        for table in ("pear", "apple", "fig"):
            store.make(table, COLUMNS)
        self.assertEqual((store.tables(), len(store)), (("apple", "fig", "pear"), 3))


class Asked(Refusing):
    def setUp(self):
        self.store = Store()
        self.store.make("fruit", COLUMNS)

    def test_no_table(self):
        ann = self.store.writer("ann")
        calls = (self.store.head, lambda thing: self.store.done(thing, "ann"), self.store.reader, ann.begin,
                 lambda thing: self.store.reader(thing, at=9))
        for table in ("nut", "fruits", *ANYTHING):
            for call in calls:
                with self.assertRaises(NoTable) as caught:
                    call(table)
                self.assertIs(caught.exception.name, table)
        self.assertEqual(ann.stage(), "idle")

    def test_done(self):
        self.assertIsNone(self.store.done("fruit", "ann"))
        ann, bob = self.store.writer("ann"), self.store.writer("bob")
        for writer, word, done in ((ann, "put", (1, 1)), (bob, "put", (1, 2)), (ann, "tag", (2, 2)), (ann, "put", (3, 3))):
            writer.begin("fruit")
            if word == "put":
                writer.put((("fig", 1),))
            else:
                writer.tag("a", 0)
            writer.commit()
            self.assertEqual(self.store.done(table="fruit", title=writer.titled()), done)
        self.assertEqual(self.store.head("fruit")[7], (("ann", 3, 3), ("bob", 1, 2)))
        self.assertIsNone(self.store.done("fruit", "cid"))

    def test_done_is_of_each_table(self):
        self.store.make("nut", COLUMNS)
        ann = self.store.writer("ann")
        for table, work in (("fruit", 1), ("nut", 1), ("fruit", 2)):
            ann.begin(table)
            ann.gather(())
            self.assertEqual(ann.work()[2], work)
            ann.commit()
        self.assertEqual((self.store.done("fruit", "ann"), self.store.done("nut", "ann")), ((2, 2), (1, 1)))

    def test_moments_are_the_shelfs(self):
        self.assertEqual(self.store.moment(), 0)
        self.assertIsNone(self.store.wait(many=4))
        self.store.shelf().wait(2)
        self.assertEqual((self.store.moment(), self.store.shelf().moment()), (6, 6))


class Writers(Refusing):
    def setUp(self):
        self.store = Store()
        self.store.make("fruit", COLUMNS)

    def test_a_writer(self):
        ann = self.store.writer(title="ann")
        self.assertIsInstance(ann, Writer)
        self.assertEqual((ann.titled(), ann.stage(), ann.work(), ann.busy()), ("ann", "idle", None, False))

    def test_no_name(self):
        for thing in ANYTHING:
            if thing not in NAMES:
                with self.assertRaises(NoName) as caught:
                    self.store.writer(thing)
                self.assertIs(caught.exception.name, thing)

    def test_taken_while_one_lives(self):
        ann = self.store.writer("ann")
        acts = (lambda: ann.begin("fruit"), lambda: ann.put((("fig", 1),)), ann.ready, ann.swap, lambda: ann.begin("fruit"),
                ann.leave)
        for act in acts:
            self.refused(Taken, lambda: self.store.writer("ann"), name="ann")
            act()
        self.refused(Taken, lambda: self.store.writer("ann"), name="ann")
        self.store.writer("bob")

    def test_taken_while_unsure(self):
        ann = self.store.writer("ann")
        ann.begin("fruit")
        ann.gather(())
        ann.ready()
        self.store.shelf().trouble(1, "lost")
        self.assertRaises(ArithmeticError, ann.swap)
        self.refused(Taken, lambda: self.store.writer("ann"), name="ann")

    def test_free_when_closed_or_dead(self):
        first = self.store.writer("ann")
        first.close()
        second = self.store.writer("ann")
        self.assertEqual((second.stage(), first.stage()), ("idle", "closed"))
        first.close()
        self.refused(Taken, lambda: self.store.writer("ann"), name="ann")
        second.begin("fruit")
        self.store.shelf().trouble(1, "crash")
        self.refused(Crash, lambda: second.key("many", 1), step=4)
        third = self.store.writer("ann")
        self.assertEqual((third.stage(), second.stage()), ("idle", "dead"))


class Apart(unittest.TestCase):
    def test_two_share_nothing(self):
        one, other = Store(), Store()
        one.make("fruit", COLUMNS)
        one.writer("ann")
        one.wait(2)
        one.reader("fruit")
        one.shelf().trouble(1, "crash")
        self.assertEqual((other.tables(), len(other), other.moment(), other.shelf().names()), ((), 0, 0, ()))
        other.make("fruit", COLUMNS)
        self.assertEqual(other.writer("ann").stage(), "idle")
        self.assertEqual(other.named(), ("s1", "h2"))

    def test_what_it_tells_is_its_own(self):
        store = Store(age=3, let=2)
        self.assertEqual(len(store), 0)
        self.assertIs(store.shelf(), store.shelf())
        store.make("fruit", COLUMNS)
        self.assertEqual(store.reader("fruit").ends(), 2)
        ann = store.writer("ann")
        ann.begin("fruit")
        store.wait(2)
        ann.gather(())
        store.wait(1)
        self.assertRaises(StillError, ann.ready)

    def test_refused_ones_change_nothing(self):
        store = Store()
        store.make("fruit", COLUMNS)
        before = (store.shelf().steps(), store.shelf().names(), store.tables(), store.named())
        for call in (lambda: store.make("fruit", ()), lambda: store.head("nut"), lambda: store.writer("A"),
                     lambda: store.reader("fruit", at=4), lambda: store.done("nut", "ann")):
            self.assertRaises((StillError, Missing), call)
        self.assertEqual((store.shelf().steps(), store.shelf().names(), store.tables(), store.named()), before)


if __name__ == "__main__":
    unittest.main()
