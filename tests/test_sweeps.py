"""Promises 32 and 33: named and left over files, sweeps, and what stands behind a crash or a lost answer."""

import unittest

from refusing import Refusing
from stillfiles.contents import is_content
from stillfiles.errors import Crash, Lost, Missing, Taken, TooLate, Trouble
from stored import COLUMNS, begun, commit, data_files, lists, put, rows, store_of


def told_files(store, table, numbers):
    """The files of commits of a table, by hand: lists of lists, lists, files of entries."""
    found = []
    for row in store.head(table)[5]:
        if row[0] in numbers:
            found.append(row[5])
            for listed in store.shelf().read(row[5])[1]:
                found.append(listed[0])
                found.extend([entry[1] for entry in store.shelf().read(listed[0])[1]])
    return found


def by_numbers(names):
    return tuple(sorted(set(names), key=lambda name: int(name[1:])))


class Named(Refusing):
    def test_of_a_new_table(self):
        store = store_of()
        self.assertEqual((store.named(), store.left_over()), (("s1", "h2"), ()))
        store.make("nut", COLUMNS)
        self.assertEqual((store.named(), store.left_over()), (("s1", "h2", "s3", "h4"), ()))

    def test_of_each_commit_that_is_told(self):
        store = store_of()
        put(store, ("fig", 3), ("kiwi", 5))
        commit(store, lambda zed: zed.drop((("name", "is", "fig"),)))
        commit(store, lambda zed: zed.key("many", 9))
        commit(store, lambda zed: zed.gather(tuple(data_files(store))))
        files = told_files(store, "fruit", range(5))
        named = by_numbers([store.shelf().pointed("fruit"), *files])
        self.assertEqual(store.named(), named)
        self.assertEqual({name[0] for name in named}, set("dmklsh"))
        heads = tuple([name for name in store.shelf().names() if name[0] == "h"])
        self.assertEqual(store.left_over(), heads[:-1])
        store.make("nut", COLUMNS)
        self.assertEqual(store.named(), (*named, *store.shelf().names()[-2:]))

    def test_behind_letting_go(self):
        store = store_of()
        for many in range(4):
            put(store, ("fig", many))
        commit(store, lambda zed: zed.gather(tuple(data_files(store))))
        commit(store, lambda zed: zed.tag("old", 2))
        commit(store, lambda zed: zed.let_go(keep=1, age=0))
        named = by_numbers([store.shelf().pointed("fruit"), *told_files(store, "fruit", (2, 5))])
        self.assertEqual(store.named(), named)
        others = [name for name in store.shelf().names() if name not in named]
        self.assertEqual(store.left_over(), tuple(others))

    def test_open_readers(self):
        store = store_of(let=4)
        for many in range(3):
            put(store, ("fig", many))
        before = told_files(store, "fruit", (1,)), told_files(store, "fruit", (2,))
        one, two = store.reader("fruit", at=1), store.reader("fruit", at=2)
        commit(store, lambda zed: zed.gather(tuple(data_files(store))))
        commit(store, lambda zed: zed.let_go(keep=1, age=0))
        alone = [store.shelf().pointed("fruit"), *told_files(store, "fruit", (4,))]
        self.assertEqual(store.named(), by_numbers([*alone, *before[0], *before[1]]))
        two.close()
        self.assertEqual(store.named(), by_numbers([*alone, *before[0]]))
        store.wait(3)
        one.renew()
        store.wait(3)
        self.assertEqual(store.named(), by_numbers([*alone, *before[0]]))
        store.wait(1)
        self.assertEqual(store.named(), by_numbers(alone))
        self.assertEqual(len(store.left_over()) + len(store.named()), len(store.shelf()))

    def test_left_over_are_files_of_writers_that_did_not_come_to_it(self):
        store = store_of()
        ann = begun(store)
        ann.put((("fig", 3),))
        self.assertEqual(store.left_over(), ("d3",))
        ann.ready()
        self.assertEqual(store.left_over(), ("d3", "l4", "s5", "h6"))
        ann.swap()
        self.assertEqual(store.left_over(), ("h2",))
        self.assertEqual(store.named(), ("s1", "d3", "l4", "s5", "h6"))


class Sweep(Refusing):
    def test_by_age(self):
        store = store_of(age=3)
        shelf = store.shelf()
        for many in range(3):
            put(store, ("fig", many))
            store.wait(1)
        old = [name for name in store.left_over() if name[0] == "h"]
        self.assertEqual([shelf.written(name) for name in old], [0, 0, 1])
        self.assertEqual((store.sweep(), store.left_over()), (tuple(old[:2]), (old[2],)))
        self.assertEqual(store.sweep(), ())
        store.wait(1)
        steps = shelf.steps()
        self.assertEqual((store.sweep(), store.left_over(), shelf.steps()), ((old[2],), (), steps + 1))
        self.assertEqual(rows(store), (("fig", 0), ("fig", 1), ("fig", 2)))

    def test_each_is_a_step_by_numbers(self):
        store = store_of()
        for many in range(5):
            put(store, ("fig", many))
        store.wait(10)
        left, steps = store.left_over(), store.shelf().steps()
        self.assertEqual(len(left), 5)
        self.assertEqual((store.sweep(), store.shelf().steps()), (left, steps + 5))
        self.assertEqual(store.named(), store.shelf().names())

    def test_a_trouble_in_the_midst_leaves_those_ahead_gone(self):
        for word, error, gone in (("crash", Crash, 2), ("void", Lost, 2), ("lost", Lost, 3)):
            store = store_of()
            for many in range(5):
                put(store, ("fig", many))
            store.wait(10)
            left, steps = store.left_over(), store.shelf().steps()
            store.shelf().trouble(3, word)
            self.refused(error, store.sweep, step=steps + 3)
            self.assertEqual(store.left_over(), left[gone:])
            self.assertEqual(store.sweep(), left[gone:])
            self.assertEqual(len(rows(store)), 5)

    def test_none_of_a_writer_that_is_not_too_late(self):
        store = store_of(age=4)
        ann = begun(store)
        store.wait(1)
        ann.put((("fig", 3),))
        ann.ready()
        store.wait(2)
        self.assertEqual(store.sweep(), ())
        ann.ready()
        store.sweep()
        self.assertEqual((ann.swap(), rows(store)), (1, (("fig", 3),)))

    def test_behind_the_age_all_else_goes(self):
        store = store_of(age=4)
        ann = begun(store)
        ann.put((("fig", 3),))
        ann.ready()
        store.wait(4)
        self.assertEqual(store.sweep(), ("d3", "l4", "s5", "h6"))
        self.refused(TooLate, ann.swap, base=0)
        self.assertEqual(store.named(), store.shelf().names())

    def test_open_readers_keep_their_files(self):
        store = store_of(age=1, let=3)
        put(store, ("fig", 3))
        reader = store.reader("fruit")
        commit(store, lambda zed: zed.gather(tuple(data_files(store))))
        commit(store, lambda zed: zed.let_go(keep=1, age=0))
        store.wait(2)
        store.sweep()
        self.assertEqual(reader.rows(), (("fig", 3),))
        store.wait(1)
        self.assertEqual([name[0] for name in store.sweep()], ["d", "l", "s"])
        self.assertEqual(store.left_over(), ())


class Troubles(Refusing):
    def commits(self, word, act):
        """A commit met by this trouble at each of its steps: the Stores, each with its Writer and the step."""
        step = 0
        while True:
            step += 1
            store = store_of()
            put(store, ("fig", 3), ("kiwi", 5))
            ann = begun(store)
            store.shelf().trouble(step, word)
            try:
                act(ann)
                ann.commit()
            except Trouble as trouble:
                self.assertEqual(trouble.__class__, Crash if word == "crash" else Lost)
                yield store, ann, step
            else:
                # No step was left for the trouble.
                self.assertGreater(step, 3)
                return

    ACTS = (
        lambda ann: ann.put((("plum", 1),)), lambda ann: ann.change((("name", "is", "fig"),), "many", 4),
        lambda ann: ann.key("many", 5), lambda ann: ann.gather(("d3",)),
    )
    BEHIND = ((("fig", 3), ("kiwi", 5), ("plum", 1)), (("fig", 4), ("kiwi", 5)), (("fig", 3),), (("fig", 3), ("kiwi", 5)))

    def check_stands(self, store, is_done, behind):
        """The table is ahead of the deed or behind it, and nothing that is named is lacking."""
        ahead = (("fig", 3), ("kiwi", 5))
        self.assertTrue(is_content(store.head("fruit")))
        self.assertEqual(rows(store), behind if is_done else ahead)
        self.assertEqual(len(store.head("fruit")[5]), 3 if is_done else 2)
        self.assertEqual([name for name in store.named() if not store.shelf().has(name)], [])
        store.wait(10)
        store.sweep()
        self.assertEqual(store.named(), store.shelf().names())
        self.assertEqual(rows(store), behind if is_done else ahead)

    def test_crash_void_and_lost_at_every_step_of_a_commit(self):
        for word in ("crash", "void", "lost"):
            for act, behind in zip(self.ACTS, self.BEHIND):
                last = None
                for store, ann, step in self.commits(word, act):
                    is_done = store.done("fruit", "ann") is not None
                    self.assertEqual(ann.busy(), False)
                    if word == "crash":
                        self.assertEqual((ann.stage(), is_done), ("dead", False))
                    last = (ann.stage(), is_done)
                    self.check_stands(store, is_done, behind)
                self.assertEqual(last, ("dead" if word == "crash" else "unsure", word == "lost"))

    def test_a_writer_of_the_dead_ones_title_goes_on(self):
        for act, behind in zip(self.ACTS, self.BEHIND):
            for store, ann, step in self.commits("crash", act):
                again = begun(store, "ann")
                act(again)
                self.assertEqual(again.work()[:4], (again.work()[0], "ann", 1, 1))
                self.assertEqual((again.commit(), rows(store), store.done("fruit", "ann")), (2, behind, (1, 2)))
                self.assertEqual(ann.stage(), "dead")

    def test_who_lost_an_answer_goes_on(self):
        for word in ("void", "lost"):
            for act, behind in zip(self.ACTS, self.BEHIND):
                for store, ann, step in self.commits(word, act):
                    if ann.stage() == "begun":
                        act(ann)
                    if ann.stage() != "unsure" or not ann.found():
                        self.assertIn(ann.stage(), ("held", "ready"))
                        ann.commit()
                    self.assertEqual((ann.stage(), rows(store), store.done("fruit", "ann")), ("idle", behind, (1, 2)))
                    self.assertEqual(len(store.head("fruit")[5]), 3)

    def test_one_of_the_title_of_an_unsure_one_that_is_closed(self):
        for word, done in (("lost", (1, 1)), ("void", None)):
            store = store_of()
            ann = begun(store)
            ann.put((("fig", 3),))
            ann.ready()
            store.shelf().trouble(1, word)
            self.assertRaises(Lost, ann.swap)
            ann.close()
            self.assertEqual(store.done("fruit", "ann"), done)
            again = begun(store, "ann")
            again.put((("kiwi", 5),))
            self.assertEqual(again.work()[2], 1 if done is None else 2)
            again.commit()
            self.assertEqual(rows(store), (("fig", 3), ("kiwi", 5)) if done else (("kiwi", 5),))

    def test_every_step_of_a_make(self):
        for word, error in (("crash", Crash), ("void", Lost), ("lost", Lost)):
            for step in (1, 2, 3):
                store = store_of()
                put(store, ("fig", 3))
                named, steps = store.named(), store.shelf().steps()
                store.shelf().trouble(step, word)
                self.refused(error, lambda: store.make("nut", COLUMNS), step=steps + step)
                is_there = word == "lost" and step == 3
                self.assertEqual(store.tables(), ("fruit", "nut") if is_there else ("fruit",))
                if is_there:
                    self.assertEqual(rows_of_table(store, "nut"), ())
                    self.refused(Taken, lambda: store.make("nut", COLUMNS), name="nut")
                else:
                    self.assertRaises(Missing, store.head, "nut")
                    self.assertEqual(store.named(), named)
                    store.make("nut", COLUMNS)
                self.assertEqual(store.head("nut")[5][0][:4], (0, "make", None, 0))
                store.wait(10)
                store.sweep()
                self.assertEqual((store.named(), rows(store)), (store.shelf().names(), (("fig", 3),)))

    def test_what_lies_over_is_told(self):
        store = store_of()
        ann = begun(store)
        ann.put((("fig", 3),))
        store.shelf().trouble(3, "crash")
        self.assertRaises(Crash, ann.commit)
        self.assertEqual(store.left_over(), ("d3", "l4", "s5"))
        self.assertEqual(lists(store), [])


def rows_of_table(store, table):
    return store.reader(table).rows()


if __name__ == "__main__":
    unittest.main()
