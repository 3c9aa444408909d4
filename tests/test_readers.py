"""Promise 31: Readers."""

import unittest

from openings import opened_by
from refusing import Refusing
from stillfiles.errors import NoColumn, NoCommit, NoCond, NoTable, NoTag, NotNow, Over
from stillfiles.planning import plan_of
from stillfiles.readers import Reader
from stillfiles.reading import rows_of
from stored import SHAPE, commit, data_files, put, store_of
from things import ANYTHING


def filled(**bounds):
    """Commits 1 to 3 at the moments 2, 4, 4, with tags for 0 and 2."""
    store = store_of(**bounds)
    for moment, row in ((2, ("fig", 3)), (2, ("kiwi", 5)), (0, ("apple", 1))):
        store.wait(moment)
        put(store, row)
    commit(store, lambda zed: zed.tag("old", 0))
    commit(store, lambda zed: zed.tag("new", 2))
    return store


ALL = (("apple", 1), ("fig", 3), ("kiwi", 5))


class Which(Refusing):
    def setUp(self):
        self.store = filled()

    def number(self, **more):
        reader = self.store.reader("fruit", **more)
        self.assertIsInstance(reader, Reader)
        return reader.commit_number()

    def test_the_present_one(self):
        self.assertEqual(self.number(), 3)
        self.assertEqual(self.store.reader(table="fruit", at=None, tag=None, moment=None).commit_number(), 3)

    def test_at(self):
        self.assertEqual([self.number(at=number) for number in range(4)], [0, 1, 2, 3])

    def test_tag(self):
        self.assertEqual((self.number(tag="old"), self.number(tag="new")), (0, 2))

    def test_moment(self):
        self.assertEqual([self.number(moment=moment) for moment in range(6)], [0, 0, 1, 1, 3, 3])
        self.assertEqual(self.number(moment=1000), 3)

    def test_by_what_is_told(self):
        self.store.wait(3)
        commit(self.store, lambda zed: zed.let_go(keep=1, age=0))
        self.assertEqual([self.number(moment=moment) for moment in (0, 2, 3, 4)], [0, 0, 0, 3])
        commit(self.store, lambda zed: zed.untag("old"))
        commit(self.store, lambda zed: zed.let_go(keep=1, age=0))
        self.assertEqual(self.number(moment=4), 3)
        for moment in (0, 3):
            self.refused(NoCommit, lambda: self.number(moment=moment), number=moment)
        self.refused(NoCommit, lambda: self.number(at=1), number=1)
        self.refused(NoTag, lambda: self.number(tag="old"), name="old")

    def test_refused(self):
        for thing in ANYTHING:
            for more in ({}, {"at": thing}, {"tag": thing}, {"moment": -1}):
                with self.assertRaises(NoTable) as caught:
                    self.store.reader(thing, **more)
                self.assertIs(caught.exception.name, thing)
            if thing is not None and (thing not in (0, 1, 2, 3) or isinstance(thing, bool)):
                with self.assertRaises(NoCommit) as caught:
                    self.number(at=thing)
                self.assertIs(caught.exception.number, thing)
            if thing is not None:
                with self.assertRaises(NoTag) as caught:
                    self.number(tag=thing)
                self.assertIs(caught.exception.name, thing)
        self.refused(NoCommit, lambda: self.number(moment=-1), number=-1)


class Told(Refusing):
    def setUp(self):
        self.store = filled()

    def test_what_it_tells(self):
        reader = self.store.reader("fruit")
        self.assertEqual((reader.table(), reader.commit_number(), reader.ends(), reader.shape()), ("fruit", 3, 14, SHAPE))
        self.assertEqual(reader.rows(), ALL)
        self.assertEqual(reader.rows(where=(("many", "from", 2),), names=("many",), by=lambda row: -row[0]), ((5,), (3,)))
        self.assertEqual(reader.rows(names=()), ((), (), ()))
        self.assertEqual(self.store.reader("fruit", at=1).rows(), (("fig", 3),))
        where = (("many", "is", 3),)
        plan = plan_of(self.store.shelf(), self.store.head("fruit"), 3, where)
        self.assertEqual((reader.plan(where), reader.plan(where=where)), (plan, plan))
        self.assertEqual(plan[0], (data_files(self.store)[0],))

    def test_refused(self):
        reader = self.store.reader("fruit")
        for thing in ANYTHING:
            if thing != ():
                self.refused(NoCond, lambda: reader.rows(where=thing, names=("nay",)))
                self.refused(NoCond, lambda: reader.plan(thing))
        where = (("nay", "is", 1),)
        self.refused(NoColumn, lambda: reader.plan(where), name="nay")
        self.refused(NoColumn, lambda: reader.rows(where=where, names=("none",)), name="nay")
        self.refused(NoColumn, lambda: reader.rows(names=("name", "none")), name="none")

    def test_told_rows_stay_whatever_comes(self):
        readers = [self.store.reader("fruit", at=number) for number in range(4)]
        told = [reader.rows() for reader in readers]
        self.assertEqual(told, [(), (("fig", 3),), (("fig", 3), ("kiwi", 5)), ALL])
        acts = (
            lambda zed: zed.drop((("name", "is", "fig"),)), lambda zed: zed.key("name", "kiwi"),
            lambda zed: zed.reshape((("name", "many", "sum"), ("add", "many", "small", 9), ("out", "name"))),
            lambda zed: zed.gather(tuple(data_files(self.store))), lambda zed: zed.back(0),
            lambda zed: zed.untag("old"), lambda zed: zed.let_go(keep=1, age=0),
        )
        for act in acts:
            commit(self.store, act)
            self.store.wait(1)
            self.store.sweep()
            self.assertEqual([reader.rows() for reader in readers], told)
            self.assertEqual([reader.shape() for reader in readers], [SHAPE] * 4)
            self.assertEqual(readers[3].rows(where=(("name", "is", "fig"),), names=("many",)), ((3,),))
            self.assertEqual(len(readers[3].plan(())[0]), 3)

    def test_what_it_opens(self):
        store = self.store
        reader = store.reader("fruit")
        head = store.head("fruit")
        where = (("many", "is", 3),)
        alike = opened_by(store.shelf(), lambda: rows_of(store.shelf(), head, 3, where=where))
        self.assertEqual(opened_by(store.shelf(), lambda: reader.rows(where=where)), alike)
        self.assertNotIn("h", [name[0] for name in alike])

    def test_by_the_head_as_it_was_when_it_was_opened(self):
        store = store_of((("a", "small", 1),))
        put(store, (2,))
        reader = store.reader("fruit", at=0)
        commit(store, lambda zed: zed.reshape((("add", "b", "small", 5),)))
        self.assertEqual(reader.shape(), ((1, "a", "small", 1),))
        self.assertEqual((reader.commit_number(), reader.rows()), (0, ()))


class Times(Refusing):
    def calls(self, reader):
        return (reader.shape, reader.rows, lambda: reader.rows(where=7, names=("nay",)), lambda: reader.plan(()),
                lambda: reader.plan(7), reader.renew)

    def test_open_till_let_moments_have_gone(self):
        for let in (1, 3, 10):
            store = filled(let=let)
            reader = store.reader("fruit")
            self.assertEqual(reader.ends(), 4 + let)
            store.wait(let - 1)
            self.assertEqual(reader.rows(), ALL)
            store.wait(1)
            for _ in range(2):
                for call in self.calls(reader):
                    self.refused(Over, call, until=4 + let)
                self.assertEqual((reader.ends(), reader.commit_number(), reader.table()), (4 + let, 3, "fruit"))
                store.wait(5)

    def test_renew(self):
        store = filled(let=3)
        reader = store.reader("fruit")
        store.wait(2)
        self.assertEqual(reader.ends(), 7)
        self.assertIsNone(reader.renew())
        self.assertEqual(reader.ends(), 9)
        reader.renew()
        self.assertEqual(reader.ends(), 9)
        store.wait(2)
        self.assertEqual(reader.rows(), ALL)
        store.wait(1)
        self.refused(Over, reader.renew, until=9)
        self.assertEqual(reader.ends(), 9)

    def test_close(self):
        store = filled(let=5)
        reader, other = store.reader("fruit"), store.reader("fruit")
        store.wait(1)
        self.assertIsNone(reader.close())
        for _ in range(2):
            for call in self.calls(reader):
                self.refused(NotNow, call, state="closed")
            self.assertEqual((reader.ends(), reader.commit_number(), reader.table()), (9, 3, "fruit"))
            self.assertIsNone(reader.close())
            store.wait(1)
        self.assertEqual(other.rows(), ALL)
        store.wait(5)
        for call in self.calls(reader):
            self.refused(NotNow, call, state="closed")

    def test_close_one_that_is_over(self):
        store = filled(let=2)
        reader = store.reader("fruit")
        store.wait(2)
        self.refused(Over, reader.rows, until=6)
        reader.close()
        self.refused(NotNow, reader.rows, state="closed")
        self.assertEqual(reader.ends(), 6)


if __name__ == "__main__":
    unittest.main()
