"""Promise 24: the deeds of a Writer, the files that they write and the works that they make."""

import unittest

from openings import opened_by
from refusing import Refusing
from stillfiles.errors import Full, Last, NoChange, NoColumn, NoCommit, NoCond, NoFile, NoFit, NoName, NoRow, NoRule
from stillfiles.errors import NoTag, Taken, TooLate, Used
from stored import FRUIT, begun, commit, data_files, put, rows, store_of
from things import ANYTHING

BY_MANY = (("many", ("range", 10)),)


def files_of(store):
    """The contents by names of the files that were written since."""
    return {name: store.shelf().read(name) for name in store.shelf().names()}


def made(store, act, title="ann"):
    """The work that act makes of a begun Writer, and the files that it wrote: (name, content) by numbers."""
    ann = begun(store, title)
    before = files_of(store)
    assert act(ann) is None
    new = [(name, content) for name, content in files_of(store).items() if name not in before]
    return ann.work(), tuple(new)


class Put(Refusing):
    def test_in_one_file(self):
        store = store_of()
        work, files = made(store, lambda ann: ann.put(FRUIT))
        self.assertEqual(files, (("d3", ("data", 0, 0, (), FRUIT)),))
        spans = ((1, "apple", "pear", 1), (2, 3, 12, 1))
        self.assertEqual(work, ("put", "ann", 1, 0, None, (("data", "d3", 4, 0, 0, (), spans),), (), (), (), None))

    def test_by_parts_that_rise_each_in_its_order(self):
        store = store_of(rule=BY_MANY)
        told = (("a", 25), ("b", None), ("c", 21), ("d", -1), ("e", 5), ("f", 20), ("g", None))
        work, files = made(store, lambda ann: ann.put(rows=told, size=2))
        parts = (
            ("d3", (None,), (("b", None), ("g", None)), ((1, "b", "g", 0), (2, None, None, 2))),
            ("d4", (-1,), (("d", -1),), ((1, "d", "d", 0), (2, -1, -1, 0))),
            ("d5", (0,), (("e", 5),), ((1, "e", "e", 0), (2, 5, 5, 0))),
            ("d6", (2,), (("a", 25), ("c", 21)), ((1, "a", "c", 0), (2, 21, 25, 0))),
            ("d7", (2,), (("f", 20),), ((1, "f", "f", 0), (2, 20, 20, 0))),
        )
        self.assertEqual(files, tuple([(name, ("data", 0, 0, part, group)) for name, part, group, _ in parts]))
        puts = tuple([("data", name, len(group), 0, 0, part, spans) for name, part, group, spans in parts])
        self.assertEqual(work, ("put", "ann", 1, 0, None, puts, (), (), (), None))

    def test_sizes(self):
        told = tuple([("a", k) for k in range(20)])
        for more, sizes in (({}, (8, 8, 4)), ({"size": 1}, (1,) * 20), ({"size": 10}, (10, 10)), ({"size": 40}, (20,)),
                            ({"size": 19}, (19, 1))):
            work, files = made(store_of(), lambda ann: ann.put(told, **more))
            self.assertEqual(tuple([entry[2] for entry in work[5]]), sizes)
            self.assertEqual(tuple([row for _, content in files for row in content[4]]), told)

    def test_parts_of_two_fields_rise_as_worths_stand(self):
        rule = (("name", ("first", 1)), ("many", ("rest", 2)))
        told = (("b", 2), ("", 1), (None, 3), ("ba", 1), ("a", None), (None, None))
        work, _ = made(store_of(rule=rule), lambda ann: ann.put(told))
        self.assertEqual([entry[5] for entry in work[5]],
                         [(None, None), (None, 1), ("", 1), ("a", None), ("b", 0), ("b", 1)])

    def test_by_the_shape_and_rule_of_the_base(self):
        store = store_of()
        commit(store, lambda zed: zed.reshape((("add", "mark", "sign", "x"), ("out", "many"))))
        commit(store, lambda zed: zed.rerule((("mark", ("same",)),)))
        work, files = made(store, lambda ann: ann.put((("fig", "b"), ("kiwi", "a"))))
        self.assertEqual([content[1:4] for _, content in files], [(1, 1, ("a",)), (1, 1, ("b",))])
        self.assertEqual(work[5][0][3:], (1, 1, ("a",), ((1, "kiwi", "kiwi", 0), (3, "a", "a", 0))))

    def test_without_rows(self):
        work, files = made(store_of(), lambda ann: ann.put(()))
        self.assertEqual((work, files), (("put", "ann", 1, 0, None, (), (), (), (), None), ()))

    def test_no_row(self):
        store = store_of()
        ann = begun(store)
        steps = store.shelf().steps()
        for thing in ANYTHING:
            if not isinstance(thing, tuple):
                self.refused(NoRow, lambda: ann.put(thing), place=-1)
            if thing != ("a", 1):
                self.refused(NoRow, lambda: ann.put((("a", 1), ("b", None), thing, thing)), place=2)
        for row in (("a",), ("a", 100), (1, 1), ("a", True), ["a", 1], ("a", 1, 1)):
            self.refused(NoRow, lambda: ann.put((row,)), place=0)
        self.assertEqual((ann.stage(), ann.work(), store.shelf().steps()), ("begun", None, steps))


class Marking(Refusing):
    def setUp(self):
        """Three files: apple 3, fig 3, fig 7; pear 12 (marked), kiwi 12; plum 30 (away by a key), date 31."""
        self.store = store_of(rule=BY_MANY)
        commit(self.store, lambda zed: zed.put((("apple", 3), ("fig", 3), ("fig", 7))))
        commit(self.store, lambda zed: zed.put((("pear", 12), ("kiwi", 12))))
        commit(self.store, lambda zed: zed.put((("plum", 30), ("date", 31))))
        commit(self.store, lambda zed: zed.drop((("name", "is", "pear"),)))
        commit(self.store, lambda zed: zed.key("name", "plum"))
        self.one, self.two, self.three = data_files(self.store)

    def made(self, act):
        work, files = made(self.store, act)
        return work, tuple([content for _, content in files])

    def test_drop(self):
        work, files = self.made(lambda ann: ann.drop((("many", "from", 7),)))
        marks = (("marks", self.one, (2,)), ("marks", self.two, (1,)), ("marks", self.three, (1,)))
        self.assertEqual(files, marks)
        names = [name for name in self.store.shelf().names() if name[0] == "m"][-3:]
        told = ((names[0], self.one, 1), (names[1], self.two, 1), (names[2], self.three, 1))
        self.assertEqual(work, ("drop", "ann", 1, 5, ((2, "from", 7),), (), (), told, (), None))

    def test_drop_of_all_that_stand(self):
        work, files = self.made(lambda ann: ann.drop(()))
        self.assertEqual(files, (("marks", self.one, (0, 1, 2)), ("marks", self.two, (1,)), ("marks", self.three, (1,))))
        self.assertEqual((work[4], [row[1:] for row in work[7]]), ((), [(self.one, 3), (self.two, 1), (self.three, 1)]))

    def test_just_for_files_with_rows_that_meet(self):
        work, files = self.made(lambda ann: ann.drop((("name", "is", "fig"),)))
        self.assertEqual((files, work[7][0][1:]), ((("marks", self.one, (1, 2)),), (self.one, 2)))
        # By their spans files may have such rows, but none of those that stand is one.
        for title, test in (("b", ("name", "is", "pear")), ("c", ("many", "is", 30)), ("d", ("name", "is", "c"))):
            work, files = made(self.store, lambda bob: bob.drop((test,)), title)
            self.assertEqual((work[:4], work[5:], files), (("drop", title, 1, 5), ((), (), (), (), None), ()))

    def test_just_planned_files_are_opened(self):
        ann = begun(self.store)
        opened = opened_by(self.store.shelf(), lambda: ann.drop((("many", "is", 12),)))
        self.assertEqual([name for name in opened if name[0] == "d"], [self.two])

    def test_change(self):
        work, files = self.made(lambda ann: ann.change((("many", "below", 31),), "many", 25))
        self.assertEqual(files, (("marks", self.one, (0, 1, 2)), ("marks", self.two, (1,)),
                                 ("data", 0, 0, (2,), (("apple", 25), ("fig", 25), ("fig", 25), ("kiwi", 25)))))
        names = self.store.shelf().names()[-3:]
        puts = (("data", names[2], 4, 0, 0, (2,), ((1, "apple", "kiwi", 0), (2, 25, 25, 0))),)
        marks = ((names[0], self.one, 3), (names[1], self.two, 1))
        self.assertEqual(work, ("change", "ann", 1, 5, ((2, "below", 31),), puts, (), marks, (), 2))

    def test_change_puts_by_parts_eight_in_a_file(self):
        store = store_of(rule=BY_MANY)
        commit(store, lambda zed: zed.put(tuple([("a", k) for k in range(19)]), size=3))
        ann = begun(store)
        ann.change((), "name", "b")
        puts = ann.work()[5]
        self.assertEqual([(entry[2], entry[5]) for entry in puts], [(8, (0,)), (2, (0,)), (8, (1,)), (1, (1,))])
        changed = [row for entry in puts for row in store.shelf().read(entry[1])[4]]
        self.assertEqual(changed, [("b", k) for k in range(19)])

    def test_change_of_nothing(self):
        work, files = self.made(lambda ann: ann.change(where=(("name", "is", "nay"),), name="name", worth=None))
        self.assertEqual((work, files), (("change", "ann", 1, 5, ((1, "is", "nay"),), (), (), (), (), 1), ()))

    def test_by_the_shape_of_the_base(self):
        commit(self.store, lambda zed: zed.rerule(()))
        commit(self.store, lambda zed: zed.reshape((("add", "mark", "sign", "x"), ("name", "many", "sum"))))
        work, files = self.made(lambda ann: ann.change((("mark", "is", "x"), ("sum", "below", 4)), "mark", "y"))
        self.assertEqual(files, (("marks", self.one, (0, 1)), ("data", 1, 1, (), (("apple", 3, "y"), ("fig", 3, "y")))))
        self.assertEqual((work[4], work[9]), (((3, "is", "x"), (2, "below", 4)), 3))

    def test_refused(self):
        ann = begun(self.store)
        steps = self.store.shelf().steps()
        for thing in ANYTHING:
            if thing != ():
                self.refused(NoCond, lambda: ann.drop(thing))
                self.refused(NoCond, lambda: ann.change(thing, 7, 7))
            with self.assertRaises(NoColumn) as caught:
                ann.change((), thing, thing)
            self.assertIs(caught.exception.name, thing)
            if not (thing is None or (thing in (0, 1, -1, 2, 7) and not isinstance(thing, bool))):
                self.refused(NoFit, lambda: ann.change((), "many", thing), name="many")
        where = (("many", "is", "a"), ("nay", "is", 1), ("none", "is", 1))
        self.refused(NoColumn, lambda: ann.drop(where), name="nay")
        self.refused(NoColumn, lambda: ann.change(where, "none", 7), name="nay")
        self.refused(NoFit, lambda: ann.change((), "many", 100), name="many")
        self.assertEqual((ann.stage(), self.store.shelf().steps()), ("begun", steps))


class Keys(Refusing):
    def test_key(self):
        store = store_of()
        work, files = made(store, lambda ann: ann.key("name", "fig"))
        self.assertEqual(files, (("k3", ("key", 1, "fig")),))
        self.assertEqual(work, ("key", "ann", 1, 0, None, (), (), (), (("k3", 1, "fig"),), None))
        work, files = made(store, lambda bob: bob.key(name="many", worth=None), "bob")
        self.assertEqual((files, work[8]), ((("k4", ("key", 2, None)),), (("k4", 2, None),)))

    def test_refused(self):
        store = store_of()
        ann = begun(store)
        for thing in ANYTHING:
            with self.assertRaises(NoColumn) as caught:
                ann.key(thing, thing)
            self.assertIs(caught.exception.name, thing)
            if not (thing is None or (thing in (0, 1, -1, 2, 7) and not isinstance(thing, bool))):
                self.refused(NoFit, lambda: ann.key("many", thing), name="many")
        self.assertEqual((ann.stage(), store.shelf().steps()), ("begun", 3))


class Shaping(Refusing):
    def test_reshape(self):
        store = store_of()
        changes = (("add", "mark", "sign", "x"), ("out", "name"))
        work, files = made(store, lambda ann: ann.reshape(changes))
        self.assertEqual((work, files), (("reshape", "ann", 1, 0, None, (), (), (), (), changes), ()))
        work, files = made(store, lambda bob: bob.reshape(changes=()), "bob")
        self.assertEqual((work[0], work[9], files), ("reshape", (), ()))

    def test_reshape_refused(self):
        store = store_of(rule=BY_MANY)
        ann = begun(store)
        for thing in ANYTHING:
            if not isinstance(thing, tuple) or len(thing) > 4:
                self.refused(NoChange, lambda: ann.reshape(thing), place=-1)
            self.refused(NoChange, lambda: ann.reshape((("out", "nay"), thing)), place=1)
        self.refused(Taken, lambda: ann.reshape((("name", "name", "many"),)), name="many")
        self.refused(NoFit, lambda: ann.reshape((("widen", "name", "whole"),)), name="name")
        self.refused(NoColumn, lambda: ann.reshape((("out", "nay"), ("out", "many"))), name="nay")
        for name in "abcdef":
            commit(store, lambda zed: zed.reshape((("add", name, "sign", None),)))
        ann.begin("fruit")
        self.refused(Full, lambda: ann.reshape((("add", "g", "sign", None),)))
        self.assertEqual(ann.stage(), "begun")

    def test_used_at_its_place_among_the_changes(self):
        store = store_of(rule=BY_MANY)
        ann = begun(store)
        self.refused(Used, lambda: ann.reshape((("out", "many"),)), name="many")
        self.refused(Used, lambda: ann.reshape((("name", "many", "sum"), ("out", "sum"))), name="sum")
        self.refused(NoColumn, lambda: ann.reshape((("name", "many", "sum"), ("out", "many"))), name="many")
        self.refused(Taken, lambda: ann.reshape((("name", "name", "many"), ("out", "many"))), name="many")
        self.refused(Used, lambda: ann.reshape((("out", "many"), ("name", "name", "many"))), name="many")
        self.refused(NoChange, lambda: ann.reshape((("out", "many"), ("out",))), place=1)
        # Ahead of Last: many is the only one left.
        self.refused(Used, lambda: ann.reshape((("out", "name"), ("out", "many"))), name="many")
        bob = begun(store_of())
        self.refused(Last, lambda: bob.reshape((("out", "name"), ("out", "many"))))

    def test_used_by_the_rule_of_the_base(self):
        store = store_of(rule=BY_MANY)
        commit(store, lambda zed: zed.rerule((("name", ("same",)),)))
        ann = begun(store)
        self.refused(Used, lambda: ann.reshape((("out", "name"),)), name="name")
        ann.reshape((("out", "many"),))

    def test_rerule(self):
        work, files = made(store_of(), lambda ann: ann.rerule((("many", ("rest", 3)), ("name", ("same",)))))
        rule = ((2, ("rest", 3)), (1, ("same",)))
        self.assertEqual((work, files), (("rerule", "ann", 1, 0, None, (), (), (), (), rule), ()))
        self.assertEqual(made(store_of(), lambda ann: ann.rerule(rule=()))[0][9], ())

    def test_rerule_refused(self):
        ann = begun(store_of())
        for thing in ANYTHING:
            if thing != ():
                self.refused(NoRule, lambda: ann.rerule(thing))
        self.refused(NoColumn, lambda: ann.rerule((("nay", ("same",)), ("name", ("rest", 1)))), name="nay")
        self.refused(NoFit, lambda: ann.rerule((("name", ("rest", 1)), ("nay", ("same",)))), name="name")
        self.assertEqual(ann.stage(), "begun")


# Each kind of deed: as it is done at a table with a file d3 and a tag old for commit 1, and as it is refused there.
EACH = (
    (lambda ann: ann.put(()), lambda ann: ann.put(7), NoRow),
    (lambda ann: ann.drop(()), lambda ann: ann.drop(7), NoCond),
    (lambda ann: ann.change((), "many", 1), lambda ann: ann.change(7, 7, 7), NoCond),
    (lambda ann: ann.key("many", 1), lambda ann: ann.key(7, 7), NoColumn),
    (lambda ann: ann.reshape(()), lambda ann: ann.reshape(7), NoChange),
    (lambda ann: ann.rerule(()), lambda ann: ann.rerule(7), NoRule),
    (lambda ann: ann.gather(()), lambda ann: ann.gather(7), NoFile),
    (lambda ann: ann.back(1), lambda ann: ann.back(7), NoCommit),
    (lambda ann: ann.tag("new", 1), lambda ann: ann.tag(7, 7), NoName),
    (lambda ann: ann.untag("old"), lambda ann: ann.untag(7), NoTag),
    (lambda ann: ann.let_go(), lambda ann: ann.gather([]), NoFile),
)


class Late(Refusing):
    def started(self, **bounds):
        store = store_of(**bounds)
        put(store, ("fig", 3))
        commit(store, lambda zed: zed.tag("old", 1))
        return store, begun(store)

    def test_by_age(self):
        for done, wrong, error in EACH:
            store, ann = self.started()
            store.wait(9)
            self.assertRaises(error, wrong, ann)
            store.wait(1)
            for act in (wrong, done):
                self.refused(TooLate, lambda: act(ann), base=1)
            self.assertEqual(ann.stage(), "begun")
            store, ann = self.started(age=3)
            store.wait(2)
            done(ann)
            self.assertEqual(ann.stage(), "held")

    def test_by_a_commit_that_is_not_told(self):
        for done, wrong, _ in EACH:
            store, ann = self.started()
            put(store, ("kiwi", 1))
            put(store, ("plum", 1))
            commit(store, lambda zed: zed.let_go(keep=1, age=0))
            # Commit 1 is told by its tag, 3 as the present one, 2 isn't.
            self.assertEqual([row[0] for row in store.head("fruit")[5]], [1, 3])
            for act in (wrong, done):
                self.refused(TooLate, lambda: act(ann), base=1)
            ann.begin("fruit")
            done(ann)

    def test_by_a_base_that_is_not_told(self):
        for done, wrong, _ in EACH:
            store, ann = self.started()
            put(store, ("kiwi", 1))
            commit(store, lambda zed: zed.untag("old"))
            commit(store, lambda zed: zed.let_go(keep=1, age=0))
            self.assertEqual([row[0] for row in store.head("fruit")[5]], [2])
            for act in (wrong, done):
                self.refused(TooLate, lambda: act(ann), base=1)

    def test_not_by_what_is_let_go_ahead_of_the_base(self):
        store, ann = self.started()
        put(store, ("kiwi", 1))
        commit(store, lambda zed: zed.let_go(keep=2, age=0))
        self.assertEqual([row[0] for row in store.head("fruit")[5]], [1, 2])
        ann.drop(())
        self.assertEqual((ann.work()[3], rows(store, 1)), (1, (("fig", 3),)))


if __name__ == "__main__":
    unittest.main()
