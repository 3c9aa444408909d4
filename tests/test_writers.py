"""Promise 23: a Writer's stages, and what each call is at each of them."""

import unittest

from refusing import Refusing
from stillfiles.errors import Busy, Crash, Lost, NoChange, NoColumn, NoCommit, NoCond, NoFile, NoName, NoRow, NoRule, NoTable
from stillfiles.errors import NoTag, NotNow
from stored import begun, commit, put, store_of
from things import ANYTHING

STAGES = ("idle", "begun", "held", "ready", "unsure", "closed", "dead")
DEEDS = {
    "put": lambda writer: writer.put((("fig", 1),)),
    "drop": lambda writer: writer.drop(()),
    "change": lambda writer: writer.change((), "many", 1),
    "key": lambda writer: writer.key("many", 1),
    "reshape": lambda writer: writer.reshape(()),
    "rerule": lambda writer: writer.rerule(()),
    "gather": lambda writer: writer.gather(()),
    "back": lambda writer: writer.back(0),
    "tag": lambda writer: writer.tag("new", 0),
    "untag": lambda writer: writer.untag("old"),
    "let": lambda writer: writer.let_go(),
}
# Of each other call at which stages it is done, and at which one it leaves the Writer (None: as it was).
OTHERS = {
    "begin": (lambda writer: writer.begin("fruit"), ("idle", "begun"), "begun"),
    "ready": (lambda writer: writer.ready(), ("held", "ready"), "ready"),
    "swap": (lambda writer: writer.swap(), ("ready",), "idle"),
    "commit": (lambda writer: writer.commit(), ("held", "ready"), "idle"),
    "found": (lambda writer: writer.found(), ("unsure",), "idle"),
    "leave": (lambda writer: writer.leave(), ("begun", "held", "ready"), "idle"),
    "close": (lambda writer: writer.close(), ("idle", "begun", "held", "ready", "unsure", "closed"), "closed"),
}
# Deeds by what they are refused with, whatever the stage is.
WRONG = (
    (lambda writer: writer.put(7), NoRow), (lambda writer: writer.drop(7), NoCond),
    (lambda writer: writer.change(7, 7, 7), NoCond), (lambda writer: writer.key(7, 7), NoColumn),
    (lambda writer: writer.reshape(7), NoChange), (lambda writer: writer.rerule(7), NoRule),
    (lambda writer: writer.gather(7), NoFile), (lambda writer: writer.back(7), NoCommit),
    (lambda writer: writer.tag(7, 7), NoName), (lambda writer: writer.untag(7), NoTag),
)


def tables_store():
    store = store_of()
    put(store, ("pear", 12), ("fig", 3))
    commit(store, lambda writer: writer.tag("old", 1))
    return store


def at_stage(stage):
    """A Store, and a Writer of it at this stage."""
    store = tables_store()
    writer = store.writer("ann")
    if stage == "closed":
        writer.close()
    elif stage != "idle":
        writer.begin("fruit")
        if stage == "dead":
            store.shelf().trouble(1, "crash")
            try:
                writer.key("many", 1)
            except Crash:
                pass
        elif stage != "begun":
            writer.put((("kiwi", 5),))
            if stage != "held":
                writer.ready()
        if stage == "unsure":
            store.shelf().trouble(1, "lost")
            try:
                writer.swap()
            except Lost:
                pass
    assert writer.stage() == stage
    return store, writer


class Stages(Refusing):
    def test_each_deed_at_each_stage(self):
        for word, act in DEEDS.items():
            for stage in STAGES:
                _, writer = at_stage(stage)
                if stage != "begun":
                    self.refused(NotNow, lambda: act(writer), state=stage)
                    self.assertEqual(writer.stage(), stage)
                else:
                    self.assertIsNone(act(writer))
                    self.assertEqual((writer.stage(), writer.work()[0]), ("held", word))

    def test_each_other_call_at_each_stage(self):
        for name, (act, due, then) in OTHERS.items():
            for stage in STAGES:
                _, writer = at_stage(stage)
                if stage in due:
                    act(writer)
                    self.assertEqual((name, writer.stage()), (name, then))
                else:
                    self.refused(NotNow, lambda: act(writer), state=stage)
                    self.assertEqual(writer.stage(), stage)

    def test_what_only_asks_is_never_refused(self):
        for stage in STAGES:
            _, writer = at_stage(stage)
            self.assertEqual((writer.titled(), writer.stage(), writer.busy()), ("ann", stage, False))
            work = writer.work()
            self.assertEqual(work is not None, stage in ("held", "ready", "unsure"))
            if work is not None:
                self.assertEqual(work[:4], ("put", "ann", 1, 1))

    def test_the_stage_goes_ahead_of_what_is_handed_in(self):
        for stage in STAGES:
            for act, error in (*WRONG, (lambda writer: writer.begin(7), NoTable)):
                store, writer = at_stage(stage)
                steps = store.shelf().steps()
                if stage in ("idle", "begun") and error is NoTable or stage == "begun" and error is not NoTable:
                    self.assertRaises(error, act, writer)
                else:
                    self.refused(NotNow, lambda: act(writer), state=stage)
                self.assertEqual((writer.stage(), store.shelf().steps()), (stage, steps))

    def test_what_they_tell(self):
        for stage in ("begun", "held", "ready"):
            self.assertIsNone(at_stage(stage)[1].leave())
        self.assertIsNone(at_stage("idle")[1].begin(table="fruit"))
        self.assertIsNone(at_stage("idle")[1].close())


class Begin(Refusing):
    def test_no_table(self):
        for stage in ("idle", "begun"):
            _, writer = at_stage(stage)
            for thing in ("nut", *ANYTHING):
                with self.assertRaises(NoTable) as caught:
                    writer.begin(thing)
                self.assertIs(caught.exception.name, thing)
                self.assertEqual(writer.stage(), stage)
        # It goes on with what it began.
        writer.key("many", 1)
        self.assertEqual(writer.work()[:4], ("key", "ann", 1, 1))

    def numbers(self, writer):
        writer.gather(())
        number, base = writer.work()[2:4]
        writer.leave()
        return number, base

    def test_the_number_of_a_work_and_its_base(self):
        store = store_of()
        ann = begun(store)
        self.assertEqual(self.numbers(ann), (1, 0))
        ann.begin("fruit")
        self.assertEqual(self.numbers(ann), (1, 0))
        put(store, ("fig", 1), title="bob")
        ann.begin("fruit")
        ann.put(())
        self.assertEqual((ann.work()[2:4], ann.commit()), ((1, 1), 2))
        ann.begin("fruit")
        self.assertEqual(self.numbers(ann), (2, 2))
        ann.begin("fruit")
        ann.tag("new", 0)
        self.assertEqual((ann.work()[2:4], ann.commit()), ((2, 2), 2))
        ann.begin("fruit")
        self.assertEqual(self.numbers(ann), (3, 2))

    def test_begun_again_it_has_the_present_commit(self):
        store = store_of()
        ann = begun(store)
        put(store, ("fig", 1))
        ann.begin("fruit")
        self.assertEqual(self.numbers(ann), (1, 1))

    def test_begun_again_its_age_is_anew(self):
        store = store_of(age=3)
        ann = begun(store)
        store.wait(2)
        ann.begin("fruit")
        store.wait(2)
        self.assertEqual(self.numbers(ann), (1, 0))

    def test_of_a_title_that_goes_on(self):
        store = store_of()
        put(store, ("fig", 1), title="ann")
        ann = begun(store)
        self.assertEqual(self.numbers(ann), (2, 1))


class Troubles(Refusing):
    WRITING = {"put": 1, "drop": 1, "change": 2, "key": 1, "gather": 1}

    def acts(self):
        """Deeds that write, by their words, each with the number of its steps."""
        acts = {word: DEEDS[word] for word in self.WRITING}
        acts["gather"] = lambda writer: writer.gather(("d3",))
        return acts

    def test_dead_by_a_crash_in_a_deed(self):
        for word, act in self.acts().items():
            for step in range(1, self.WRITING[word] + 1):
                store, writer = at_stage("begun")
                store.shelf().trouble(step, "crash")
                self.refused(Crash, lambda: act(writer), step=store.shelf().steps() + step)
                self.assertEqual((writer.stage(), writer.work(), writer.busy()), ("dead", None, False))

    def test_as_it_was_by_a_lost_in_a_deed(self):
        for trouble in ("void", "lost"):
            for word, act in self.acts().items():
                for step in range(1, self.WRITING[word] + 1):
                    store, writer = at_stage("begun")
                    store.shelf().trouble(step, trouble)
                    self.refused(Lost, lambda: act(writer), step=store.shelf().steps() + step)
                    self.assertEqual((writer.stage(), writer.work()), ("begun", None))
                    act(writer)
                    self.assertEqual(writer.stage(), "held")

    def test_in_ready(self):
        for stage in ("held", "ready"):
            for trouble, error, then in (("crash", Crash, "dead"), ("void", Lost, stage), ("lost", Lost, stage)):
                for step in (1, 2, 3):
                    store, writer = at_stage(stage)
                    work = writer.work()
                    store.shelf().trouble(step, trouble)
                    self.refused(error, writer.ready, step=store.shelf().steps() + step)
                    self.assertEqual(writer.stage(), then)
                    self.assertEqual(writer.work(), None if then == "dead" else work)

    def test_in_swap(self):
        for trouble, error, then in (("crash", Crash, "dead"), ("void", Lost, "unsure"), ("lost", Lost, "unsure")):
            store, writer = at_stage("ready")
            work = writer.work()
            store.shelf().trouble(1, trouble)
            self.refused(error, writer.swap, step=store.shelf().steps() + 1)
            self.assertEqual((writer.stage(), writer.work()), (then, None if then == "dead" else work))

    def test_in_commit(self):
        for trouble, error in (("crash", Crash), ("void", Lost), ("lost", Lost)):
            for step in (1, 2, 3, 4):
                for stage in ("held", "ready"):
                    store, writer = at_stage(stage)
                    store.shelf().trouble(step, trouble)
                    self.refused(error, writer.commit, step=store.shelf().steps() + step)
                    left = stage if step < 4 else "unsure"
                    self.assertEqual((writer.stage(), writer.busy()), ("dead" if trouble == "crash" else left, False))

    def test_another_ones_trouble_is_not_his(self):
        store, writer = at_stage("held")
        bob = begun(store, "bob")
        store.shelf().trouble(1, "crash")
        self.assertRaises(Crash, bob.key, "many", 1)
        store.shelf().trouble(1, "crash")
        self.assertRaises(Crash, store.make, "nut", (("a", "word", ""),))
        self.assertEqual((writer.stage(), bob.stage()), ("held", "dead"))
        self.assertEqual(writer.commit(), 2)


class BusyOnes(Refusing):
    CALLS = (*DEEDS.values(), *[act for act, _, _ in OTHERS.values()])

    def test_each_call_while_a_commit_is_done(self):
        store, writer = at_stage("held")
        seen = []

        def look(told):
            self.assertIs(told, writer)
            seen.append((writer.titled(), writer.stage(), writer.work()[0], writer.busy()))
            for call in self.CALLS:
                self.refused(Busy, lambda: call(writer))
            for call, _ in WRONG:
                self.refused(Busy, lambda: call(writer))
            self.assertEqual((writer.stage(), writer.busy()), ("ready", True))

        self.assertEqual(writer.commit(look=look), 2)
        self.assertEqual(seen, [("ann", "ready", "put", True)])
        self.assertEqual((writer.stage(), writer.busy()), ("idle", False))

    def test_another_writer_is_not_busy(self):
        store, writer = at_stage("held")
        bob = begun(store, "bob")
        bob.gather(())

        def look(_):
            self.assertIs(bob.busy(), False)
            bob.leave()

        self.assertEqual(writer.commit(look=look), 2)
        self.assertEqual(bob.stage(), "idle")


if __name__ == "__main__":
    unittest.main()
