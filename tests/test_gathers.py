"""Promises 29 and 30: gather, back, tags and letting go, as deeds and over what comes meanwhile."""

import unittest

from refusing import Refusing
from stillfiles.errors import Clash, NoCommit, NoFile, NoName, NoTag, Taken
from stored import begun, commit, data_files, entries, present, put, rows, store_of
from things import ANYTHING, LARGE

NAMES = ("a", "ab", "abcdef")
BY_MANY = (("many", ("range", 10)),)


class Gather(Refusing):
    def setUp(self):
        """Three files with marks for the first one, a key for the second one's fig, each by a commit of its own."""
        self.store = store_of()
        put(self.store, ("pear", 12), ("apple", 3), ("fig", 3))
        put(self.store, ("kiwi", 5), ("fig", 25))
        commit(self.store, lambda zed: zed.drop((("name", "is", "apple"),)))
        commit(self.store, lambda zed: zed.key("many", 25))
        put(self.store, ("date", 25))
        self.one, self.two, self.three = data_files(self.store)
        self.rows = (("date", 25), ("fig", 3), ("kiwi", 5), ("pear", 12))

    def test_its_work(self):
        ann = begun(self.store)
        self.assertIsNone(ann.gather(files=(self.three, self.one, self.two)))
        file = self.store.shelf().names()[-1]
        spans = ((1, "date", "pear", 0), (2, 3, 25, 0))
        self.assertEqual(ann.work(), ("gather", "ann", 1, 5, None, (("data", file, 4, 0, 0, (), spans),),
                                      (self.one, self.two, self.three), (), (), None))
        told = (("pear", 12), ("fig", 3), ("kiwi", 5), ("date", 25))
        self.assertEqual(self.store.shelf().read(file), ("data", 0, 0, (), told))
        self.assertEqual((ann.commit(), rows(self.store)), (6, self.rows))
        self.assertEqual([entry[:3] for entry in entries(self.store) if entry[0] == "data"], [("data", file, 5)])

    def test_by_parts_and_sizes(self):
        commit(self.store, lambda zed: zed.rerule(BY_MANY))
        ann = begun(self.store)
        ann.gather((self.one, self.three, self.two), size=1)
        self.assertEqual([entry[2:6] for entry in ann.work()[5]],
                         [(1, 0, 1, (0,)), (1, 0, 1, (0,)), (1, 0, 1, (1,)), (1, 0, 1, (2,))])
        told = [self.store.shelf().read(entry[1])[4][0][0] for entry in ann.work()[5]]
        self.assertEqual(told, ["fig", "kiwi", "pear", "date"])
        ann.commit()
        self.assertEqual(rows(self.store), self.rows)

    def test_eight_in_a_file_by_default(self):
        store = store_of()
        for start in (0, 7, 14):
            put(store, *[("a", many) for many in range(start, start + 7)])
        commit(store, lambda zed: zed.gather(tuple(data_files(store))))
        self.assertEqual([entry[3] for entry in entries(store)], [8, 8, 5])
        self.assertEqual(rows(store), tuple([("a", many) for many in range(21)]))

    def test_by_the_shape_of_the_base(self):
        commit(self.store, lambda zed: zed.reshape((("add", "mark", "sign", "x"), ("out", "many"))))
        commit(self.store, lambda zed: zed.gather((self.one, self.three)))
        entry = [entry for entry in entries(self.store) if entry[0] == "data"][-1]
        self.assertEqual(entry[2:], (6, 3, 1, 0, (), ((1, "date", "pear", 0), (3, "x", "x", 0))))
        self.assertEqual(rows(self.store), tuple([(name, "x") for name, _ in self.rows]))

    def test_files_of_which_nothing_stands(self):
        commit(self.store, lambda zed: zed.drop((("many", "from", 5),)))
        ann = begun(self.store)
        ann.gather((self.three, self.two))
        self.assertEqual((ann.work()[5], ann.work()[6]), ((), (self.two, self.three)))
        ann.commit()
        self.assertEqual((rows(self.store), data_files(self.store)), ((("fig", 3),), [self.one]))

    def test_a_key_that_comes_meanwhile(self):
        ann = begun(self.store)
        ann.gather((self.one, self.two))
        commit(self.store, lambda zed: zed.key("name", "kiwi"))
        put(self.store, ("kiwi", 9))
        ann.commit()
        self.assertEqual(rows(self.store), (("date", 25), ("fig", 3), ("kiwi", 9), ("pear", 12)))

    def test_a_key_of_the_base_isnt_asked_again(self):
        # A row with the key's worth that came behind the key is still there when it is gathered.
        ann = begun(self.store)
        ann.gather((self.three, self.two))
        commit(self.store, lambda zed: zed.key("many", 12))
        ann.commit()
        self.assertEqual(rows(self.store), (("date", 25), ("fig", 3), ("kiwi", 5)))
        commit(self.store, lambda zed: zed.key("many", 25))
        self.assertEqual(rows(self.store), (("fig", 3), ("kiwi", 5)))

    def test_marks_that_come_meanwhile(self):
        for name, is_met in (("kiwi", True), ("date", False)):
            self.setUp()
            ann = begun(self.store)
            ann.gather((self.one, self.two))
            commit(self.store, lambda zed: zed.drop((("name", "is", name),)))
            if is_met:
                self.refused(Clash, ann.commit, number=6, word="marked", file=self.two)
            else:
                ann.commit()
                self.assertEqual(rows(self.store), (("fig", 3), ("kiwi", 5), ("pear", 12)))

    def test_marks_of_one_that_a_gather_met(self):
        ann = begun(self.store)
        ann.drop((("name", "is", "kiwi"),))
        bob = begun(self.store, "bob")
        bob.drop((("name", "is", "date"),))
        commit(self.store, lambda zed: zed.gather((self.one, self.two)))
        self.refused(Clash, ann.commit, number=6, word="took", file=self.two)
        bob.commit()
        self.assertEqual(rows(self.store), (("fig", 3), ("kiwi", 5), ("pear", 12)))

    def test_two_gathers(self):
        ann, bob = begun(self.store), begun(self.store, "bob")
        ann.gather((self.one, self.two))
        bob.gather((self.three,))
        self.assertEqual((ann.commit(), bob.commit(), rows(self.store)), (6, 7, self.rows))

    def test_no_file(self):
        ann = begun(self.store)
        steps = self.store.shelf().steps()
        for thing in ANYTHING:
            with self.assertRaises(NoFile) as caught:
                ann.gather((self.one, thing, thing))
            self.assertIs(caught.exception.file, thing)
            if not isinstance(thing, tuple):
                with self.assertRaises(NoFile) as caught:
                    ann.gather(thing)
                self.assertIs(caught.exception.file, thing)
        marks = [entry[1] for entry in entries(self.store) if entry[0] == "marks"][0]
        self.refused(NoFile, lambda: ann.gather(self.one), file=self.one)
        self.refused(NoFile, lambda: ann.gather((self.one, marks, "d99")), file=marks)
        self.refused(NoFile, lambda: ann.gather((self.one, self.two, self.one, "d99")), file=self.one)
        self.refused(NoFile, lambda: ann.gather((self.two, "d99", self.two)), file="d99")
        self.assertEqual((ann.stage(), self.store.shelf().steps()), ("begun", steps))

    def test_a_file_that_is_not_of_the_base(self):
        ann = begun(self.store)
        put(self.store, ("plum", 1))
        new = data_files(self.store)[-1]
        self.refused(NoFile, lambda: ann.gather((new,)), file=new)
        commit(self.store, lambda zed: zed.gather((self.one,)))
        ann.gather((self.one,))
        bob = begun(self.store, "bob")
        self.refused(NoFile, lambda: bob.gather((self.one,)), file=self.one)


class Back(Refusing):
    def test_to_each_commit(self):
        store = store_of()
        put(store, ("fig", 3))
        commit(store, lambda zed: zed.key("many", 3))
        put(store, ("fig", 3), ("kiwi", 4))
        commit(store, lambda zed: zed.gather(tuple(data_files(store))))
        told = [rows(store, number) for number in range(5)]
        for number in (1, 0, 3, 5, 4, 2):
            expected = told[number]
            commit(store, lambda zed: zed.back(number=number))
            told.append(rows(store))
            self.assertEqual((rows(store), present(store)[1]), (expected, "back"))
        self.assertEqual([rows(store, number) for number in range(11)], told)

    def test_its_work(self):
        store = store_of()
        put(store, ("fig", 3))
        ann = begun(store)
        steps = store.shelf().steps()
        self.assertIsNone(ann.back(0))
        self.assertEqual((ann.work(), store.shelf().steps()), (("back", "ann", 1, 1, None, (), (), (), (), 0), steps))

    def test_no_commit_by_the_head_of_the_base(self):
        store = store_of()
        put(store, ("fig", 3))
        ann = begun(store)
        put(store, ("fig", 4))
        for number in (2, -1, LARGE, True, False, *[thing for thing in ANYTHING if thing not in (0, 1)]):
            with self.assertRaises(NoCommit) as caught:
                ann.back(number)
            self.assertIs(caught.exception.number, number)
        self.assertEqual(ann.stage(), "begun")
        ann.back(1)
        self.assertEqual((ann.commit(), rows(store)), (3, (("fig", 3),)))


class Tags(Refusing):
    def setUp(self):
        self.store = store_of()
        put(self.store, ("fig", 3))
        commit(self.store, lambda zed: zed.tag("old", 1))

    def test_tag_refused_in_order(self):
        ann = begun(self.store)
        for thing in ANYTHING:
            if thing not in NAMES:
                with self.assertRaises(NoName) as caught:
                    ann.tag(thing, 7)
                self.assertIs(caught.exception.name, thing)
            if thing not in (0, 1) or isinstance(thing, bool):
                with self.assertRaises(NoCommit) as caught:
                    ann.tag("new", thing)
                self.assertIs(caught.exception.number, thing)
        self.refused(Taken, lambda: ann.tag("old", 7), name="old")
        self.refused(Taken, lambda: ann.tag("old", 1), name="old")
        self.assertEqual(ann.stage(), "begun")
        ann.tag("new", 0)
        self.assertEqual(ann.commit(), 1)

    def test_untag_refused(self):
        ann = begun(self.store)
        for thing in ("new", *ANYTHING):
            with self.assertRaises(NoTag) as caught:
                ann.untag(thing)
            self.assertIs(caught.exception.name, thing)
        ann.untag(tag="old")
        ann.commit()
        self.assertEqual(self.store.head("fruit")[6], ())

    def test_by_the_head_of_the_base_and_again_when_made_ready(self):
        ann, bob, cid = [begun(self.store, title) for title in ("ann", "bob", "cid")]
        commit(self.store, lambda zed: zed.untag("old"))
        commit(self.store, lambda zed: zed.tag("new", 0))
        self.refused(Taken, lambda: ann.tag("old", 0), name="old")
        ann.tag("new", 1)
        self.refused(NoTag, lambda: bob.untag("new"), name="new")
        bob.untag("old")
        cid.tag("later", 0)
        self.refused(Taken, ann.ready, name="new")
        self.refused(NoTag, bob.ready, name="old")
        commit(self.store, lambda zed: zed.untag("new"))
        commit(self.store, lambda zed: zed.let_go(keep=1, age=0))
        self.refused(NoCommit, cid.ready, number=0)
        self.assertEqual(ann.commit(), 1)
        self.assertEqual(self.store.head("fruit")[6], (("new", 1),))

    def test_let_go_keeps_what_it_is_asked_to(self):
        for _ in range(4):
            put(self.store, ("fig", 3))
        ann = begun(self.store)
        steps = self.store.shelf().steps()
        self.assertIsNone(ann.let_go(keep=2, age=0))
        self.assertEqual((ann.stage(), self.store.shelf().steps()), ("held", steps))
        ann.commit()
        self.assertEqual([row[0] for row in self.store.head("fruit")[5]], [1, 4, 5])


if __name__ == "__main__":
    unittest.main()
