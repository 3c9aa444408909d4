"""Promises 25 and 26: how a work is made ready, swapped, found, committed."""

import unittest

from refusing import Refusing
from stillfiles.errors import Busy, Clash, Crash, Lost, NoCommit, NotNow, NoTag, Taken, Tired, TooLate
from stored import FRUIT, begun, commit, data_files, entries, lists, present, put, rows, store_of

BY_MANY = (("many", ("range", 10)),)


class Made(Refusing):
    """What ready writes, by what stands on the Shelf behind it."""

    def setUp(self):
        self.store = store_of()
        self.shelf = self.store.shelf()

    def written(self, act):
        """The names and contents that an act writes."""
        before = self.shelf.names()
        act()
        return [(name, self.shelf.read(name)) for name in self.shelf.names() if name not in before]

    def test_a_put(self):
        self.store.wait(2)
        ann = begun(self.store)
        ann.put(FRUIT)
        self.store.wait(3)
        list_file, lists_file, head_file = self.written(ann.ready)
        spans = ((1, "apple", "pear", 1), (2, 3, 12, 1))
        self.assertEqual(list_file, ("l4", ("list", (("data", "d3", 1, 4, 0, 0, (), spans),))))
        whole = ((1, "apple", "pear", 1, 0), (2, 3, 12, 1, 0))
        self.assertEqual(lists_file, ("s5", ("lists", (("l4", 1, 0, whole),))))
        elder = self.store.head("fruit")
        commits = (*elder[5], (1, "put", "ann", 1, 5, "s5", 0, 0))
        self.assertEqual(head_file, ("h6", (*elder[:5], commits, (), (("ann", 1, 1),))))
        self.assertEqual((ann.stage(), self.shelf.pointed("fruit")), ("ready", "h2"))
        self.store.wait(1)
        self.assertEqual((ann.swap(), ann.stage(), self.shelf.pointed("fruit")), (1, "idle", "h6"))
        self.assertEqual((self.store.head("fruit"), rows(self.store, 0)), (head_file[1], ()))
        self.assertEqual(present(self.store)[4], 5)

    def test_ready_tells_the_heads_file(self):
        ann = begun(self.store)
        ann.put(FRUIT)
        self.assertEqual(ann.ready(), "h6")

    def test_in_the_order_puts_marks_keys_behind_the_present_lists(self):
        put(self.store, ("apple", 3), ("fig", 3))
        elder = lists(self.store)
        ann = begun(self.store)
        ann.change((("name", "is", "fig"),), "many", 4)
        self.assertEqual([name[0] for name, _ in self.written(ann.ready)], ["l", "s", "h"])
        ann.swap()
        now = lists(self.store)
        self.assertEqual(now[:-1], elder)
        puts, marks = ann_files(self.store, "change")
        self.assertEqual([entry[:3] for entry in now[-1][1]], [("data", puts, 2), ("marks", marks, 2)])
        self.assertEqual(now[-1][1][1][3:], (data_files(self.store)[0], 1))
        commit(self.store, lambda zed: zed.key("many", 4))
        self.assertEqual(lists(self.store)[-1][1], (("key", self.newest("k"), 3, 2, 4),))

    def newest(self, letter):
        return [name for name in self.shelf.names() if name[0] == letter][-1]

    def test_a_work_without_files(self):
        put(self.store, ("fig", 3))
        lists_file = present(self.store)[5]
        for number, act in enumerate((lambda ann: ann.put(()), lambda ann: ann.drop((("many", "is", 9),)),
                                      lambda ann: ann.change((("many", "is", 9),), "many", 1), lambda ann: ann.gather(()),
                                      lambda ann: ann.reshape(()), lambda ann: ann.rerule(())), start=2):
            ann = begun(self.store, "ann")
            act(ann)
            word = ann.work()[0]
            self.assertEqual([name[0] for name, _ in self.written(ann.commit)], ["h"])
            ann.close()
            self.assertEqual(present(self.store)[:4], (number, word, "ann", number - 1))
            self.assertEqual((present(self.store)[5], rows(self.store)), (lists_file, (("fig", 3),)))

    def test_shapes_and_rules_behind_all_others(self):
        put(self.store, ("fig", 3))
        commit(self.store, lambda zed: zed.reshape((("add", "mark", "sign", "x"), ("add", "more", "small", 1))))
        head = self.store.head("fruit")
        shape = ((1, "name", "word", "none"), (2, "many", "small", 0), (3, "mark", "sign", "x"), (4, "more", "small", 1))
        self.assertEqual((head[2][1:], head[4], present(self.store)[6:]), ((shape,), 5, (1, 0)))
        commit(self.store, lambda zed: zed.rerule((("more", ("same",)),)))
        head = self.store.head("fruit")
        self.assertEqual((head[3], head[4], present(self.store)[6:]), (((), ((4, ("same",)),)), 5, (1, 1)))
        put(self.store, ("fig", 3, "a", 1))
        self.assertEqual(present(self.store)[6:], (1, 1))
        commit(self.store, lambda zed: zed.reshape(()))
        self.assertEqual((self.store.head("fruit")[2][2], present(self.store)[6:]), (shape, (2, 1)))
        commit(self.store, lambda zed: zed.rerule(()))
        self.assertEqual((self.store.head("fruit")[3][2], present(self.store)[6:]), ((), (2, 2)))

    def test_next_as_it_is_then(self):
        ann = begun(self.store)
        ann.reshape((("add", "a", "sign", None), ("out", "a")))
        ann.commit()
        self.assertEqual((self.store.head("fruit")[4], len(self.store.head("fruit")[2][1])), (4, 2))
        commit(self.store, lambda zed: zed.reshape((("add", "a", "sign", None),)))
        self.assertEqual(self.store.head("fruit")[2][2][2], (4, "a", "sign", None))

    def test_back(self):
        put(self.store, ("fig", 3))
        ann = begun(self.store)
        ann.back(1)
        put(self.store, ("kiwi", 4))
        commit(self.store, lambda zed: zed.reshape((("out", "many"),)))
        commit(self.store, lambda zed: zed.rerule((("name", ("same",)),)))
        self.assertEqual([name[0] for name, _ in self.written(ann.commit)], ["h"])
        lists_file = self.store.head("fruit")[5][1][5]
        self.assertEqual(present(self.store), (5, "back", "ann", 1, 0, lists_file, 1, 1))
        self.assertEqual(rows(self.store), (("fig",),))

    def test_put_of_an_elder_shape_and_rule(self):
        ann = begun(self.store)
        ann.put((("fig", 3),))
        commit(self.store, lambda zed: zed.reshape((("add", "mark", "sign", "x"), ("out", "many"))))
        commit(self.store, lambda zed: zed.rerule((("mark", ("same",)),)))
        self.assertEqual((ann.commit(), present(self.store)[6:]), (3, (1, 1)))
        self.assertEqual((entries(self.store)[0][2:7], rows(self.store)), ((3, 1, 0, 0, ()), (("fig", "x"),)))


def ann_files(store, word):
    """The names of the files of the newest list, which a work of this word brought."""
    assert present(store)[1] == word
    return [entry[1] for entry in lists(store)[-1][1]]


class Gathers(Refusing):
    def setUp(self):
        """Lists: (one, two); (three); (marks for one); (four, key)."""
        self.store = store_of(rule=BY_MANY)
        commit(self.store, lambda zed: zed.put((("apple", 3), ("pear", 4), ("fig", 12))))
        put(self.store, ("kiwi", 5))
        commit(self.store, lambda zed: zed.drop((("name", "is", "pear"),)))
        put(self.store, ("date", 25))
        self.one, self.two, self.three, self.four = data_files(self.store)
        self.before = lists(self.store)

    def gathered(self, *files):
        commit(self.store, lambda zed: zed.gather(files), "gat")
        return lists(self.store)

    def test_a_list_that_has_others_is_written_anew_in_its_place(self):
        now = self.gathered(self.two)
        self.assertEqual([entry[1] for entry in now[0][1]], [self.one])
        self.assertNotEqual(now[0][0], self.before[0][0])
        self.assertEqual(now[1:4], self.before[1:])
        self.assertEqual([entry[:4] for entry in now[4][1]], [("data", now[4][1][0][1], 4, 1)])
        self.assertEqual(len(now), 5)

    def test_a_list_without_any_left_goes_and_marks_go_with_their_file(self):
        now = self.gathered(self.one, self.three)
        self.assertEqual([entry[1] for entry in now[0][1]], [self.two])
        self.assertEqual(now[1], self.before[3])
        self.assertEqual((len(now), [entry[2:4] for entry in now[2][1]]), (3, [(4, 2)]))
        self.assertEqual(rows(self.store), (("apple", 3), ("date", 25), ("fig", 12), ("kiwi", 5)))

    def test_of_all(self):
        now = self.gathered(self.four, self.three, self.two, self.one)
        self.assertEqual([[entry[2:6] for entry in told] for _, told in now], [[(4, 2, 0, 0), (4, 1, 0, 0), (4, 1, 0, 0)]])
        self.assertEqual(rows(self.store), (("apple", 3), ("date", 25), ("fig", 12), ("kiwi", 5)))

    def test_nothing_that_stands(self):
        commit(self.store, lambda zed: zed.drop(()))
        now = self.gathered(self.one, self.two, self.three, self.four)
        self.assertEqual((now, rows(self.store)), ([], ()))
        self.assertEqual(self.store.shelf().read(present(self.store)[5]), ("lists", ()))

    def test_what_is_written_in_order(self):
        ann = begun(self.store)
        ann.gather((self.one, self.two, self.three))
        before = self.store.shelf().names()
        ann.ready()
        new = [name[0] for name in self.store.shelf().names() if name not in before]
        # (one, two) and (three) and the marks go; there is no list but that of what it brings.
        self.assertEqual(new, ["l", "s", "h"])
        ann.leave()
        ann.begin("fruit")
        ann.gather((self.one,))
        before = self.store.shelf().names()
        ann.ready()
        new = [name for name in self.store.shelf().names() if name not in before]
        self.assertEqual([name[0] for name in new], ["l", "l", "s", "h"])
        self.assertEqual(self.store.shelf().read(new[0])[1], self.before[0][1][1:])
        self.assertEqual(self.store.shelf().read(new[1])[1][0][2], 4)

    def test_the_rows_of_lists_tell_of_the_new_lists(self):
        self.gathered(self.one, self.three)
        for row in self.store.shelf().read(present(self.store)[5])[1]:
            told = self.store.shelf().read(row[0])[1]
            datas = [entry for entry in told if entry[0] == "data"]
            self.assertEqual(row[1:3], (len(datas), len(told) - len(datas)))
            self.assertEqual([span[:2] for span in row[3]],
                             [(number, min([entry[7][number - 1][1] for entry in datas])) for number in (1, 2)])


class Readies(Refusing):
    def setUp(self):
        self.store = store_of()
        put(self.store, ("fig", 3))
        self.ann = begun(self.store)

    def test_twice_it_is_the_present_head_anew(self):
        self.ann.put((("kiwi", 1),))
        first = self.ann.ready()
        put(self.store, ("plum", 2))
        second = self.ann.ready()
        self.assertNotEqual(first, second)
        self.assertEqual((self.ann.swap(), rows(self.store)), (3, (("fig", 3), ("kiwi", 1), ("plum", 2))))

    def test_twice_without_a_change_between(self):
        self.ann.put((("kiwi", 1),))
        self.ann.ready()
        second = self.ann.ready()
        self.assertEqual((self.ann.swap(), self.store.shelf().pointed("fruit")), (2, second))

    def test_its_moment_is_that_of_ready(self):
        self.ann.put((("kiwi", 1),))
        self.store.wait(2)
        self.ann.ready()
        self.store.wait(1)
        self.ann.ready()
        self.store.wait(4)
        self.ann.swap()
        self.assertEqual(present(self.store)[4], 3)

    def refused_when(self, act, meanwhile, error, **fields):
        """A held one, and a ready one, is refused so ahead of its first step, and stays what it was."""
        for is_ready in (False, True):
            store = store_of()
            put(store, ("fig", 3))
            commit(store, lambda zed: zed.tag("old", 1))
            ann = begun(store)
            act(ann)
            work = ann.work()
            if is_ready:
                ann.ready()
            meanwhile(store)
            steps = store.shelf().steps()
            self.refused(error, ann.ready, **fields)
            self.assertEqual((ann.stage(), ann.work(), store.shelf().steps()),
                             ("ready" if is_ready else "held", work, steps))

    def test_refused(self):
        self.refused_when(lambda ann: ann.put(()), lambda store: store.wait(10), TooLate, base=1)
        self.refused_when(lambda ann: ann.tag("new", 1), lambda store: store.wait(11), TooLate, base=1)
        self.refused_when(lambda ann: ann.tag("new", 1), lambda store: commit(store, lambda zed: zed.tag("new", 0)), Taken,
                          name="new")
        self.refused_when(lambda ann: ann.untag("old"), lambda store: commit(store, lambda zed: zed.untag("old")), NoTag,
                          name="old")

        def let(store):
            commit(store, lambda zed: zed.let_go(keep=1, age=0))

        self.refused_when(lambda ann: ann.back(0), let, NoCommit, number=0)
        self.refused_when(lambda ann: ann.tag("new", 0), let, NoCommit, number=0)

        def let_all(store):
            put(store, ("kiwi", 1))
            put(store, ("kiwi", 1))
            let(store)

        for act in (lambda ann: ann.put(()), lambda ann: ann.back(0), lambda ann: ann.untag("old"),
                    lambda ann: ann.let_go()):
            self.refused_when(act, let_all, TooLate, base=1)
        self.refused_when(lambda ann: ann.drop(()), lambda store: commit(store, lambda zed: zed.back(1)), Clash, number=2,
                          word="back", file=None)

    def test_refused_in_order(self):
        def let_and_back(store):
            commit(store, lambda zed: zed.back(1))
            store.wait(9)

        self.refused_when(lambda ann: ann.drop(()), let_and_back, Clash, number=2, word="back", file=None)

        def let_go_and_wait(store):
            commit(store, lambda zed: zed.let_go(keep=1, age=0))
            store.wait(10)

        self.refused_when(lambda ann: ann.back(0), let_go_and_wait, TooLate, base=1)

        def tag_taken_and_let(store):
            commit(store, lambda zed: zed.tag("new", 1))
            commit(store, lambda zed: zed.let_go(keep=1, age=0))

        self.refused_when(lambda ann: ann.tag("new", 0), tag_taken_and_let, Taken, name="new")

    def test_a_ready_one_keeps_its_head_where_ready_is_refused(self):
        self.ann.drop(())
        self.ann.ready()
        bob = begun(self.store, "bob")
        bob.put((("kiwi", 1),))
        bob.commit()
        self.refused(Clash, self.ann.ready, number=2, word="put", file=data_files(self.store)[1])
        # By hand the table points again at the head that the first ready read: that one can be swapped still.
        shelf = self.store.shelf()
        elder = [name for name in shelf.names() if name[0] == "h"][1]
        self.assertTrue(shelf.swap("fruit", shelf.pointed("fruit"), elder))
        self.assertEqual((self.ann.swap(), rows(self.store)), (2, ()))

    def test_and_where_a_lost_comes(self):
        for step in (1, 2, 3):
            for word in ("void", "lost"):
                store = store_of()
                ann = begun(store)
                ann.put((("kiwi", 1),))
                made = ann.ready()
                store.shelf().trouble(step, word)
                self.refused(Lost, ann.ready, step=store.shelf().steps() + step)
                self.assertEqual((ann.stage(), ann.swap(), store.shelf().pointed("fruit")), ("ready", 1, made))


class Swaps(Refusing):
    def setUp(self):
        self.store = store_of(age=5)
        put(self.store, ("fig", 3))
        self.ann = begun(self.store)

    def test_none_where_the_table_points_elsewhere(self):
        self.ann.put((("kiwi", 1),))
        self.ann.ready()
        put(self.store, ("plum", 2))
        self.assertIsNone(self.ann.swap())
        self.assertEqual((self.ann.stage(), self.ann.work()[0]), ("held", "put"))
        self.ann.ready()
        self.assertEqual((self.ann.swap(), self.ann.stage(), self.ann.work()), (3, "idle", None))

    def test_none_also_behind_a_tag(self):
        self.ann.tag("new", 1)
        self.ann.ready()
        commit(self.store, lambda zed: zed.tag("other", 1))
        self.assertIsNone(self.ann.swap())
        self.assertEqual(self.ann.commit(), 1)
        self.assertEqual(self.store.head("fruit")[6], (("new", 1), ("other", 1)))

    def test_refused_by_age(self):
        self.ann.put((("kiwi", 1),))
        self.ann.ready()
        self.store.wait(4)
        self.ann.ready()
        self.store.wait(1)
        steps = self.store.shelf().steps()
        self.refused(TooLate, self.ann.swap, base=1)
        self.assertEqual((self.ann.stage(), self.store.shelf().steps()), ("held", steps))
        self.refused(NotNow, self.ann.swap, state="held")

    def test_not_refused_by_commits_that_are_not_told(self):
        self.ann.put((("kiwi", 1),))
        self.ann.ready()
        put(self.store, ("plum", 2))
        commit(self.store, lambda zed: zed.let_go(keep=1, age=0))
        self.assertIsNone(self.ann.swap())
        self.refused(TooLate, self.ann.ready, base=1)

    def lost(self, word, writer):
        self.store.shelf().trouble(1, word)
        self.refused(Lost, writer.swap, step=self.store.shelf().steps() + 1)
        self.assertEqual((writer.stage(), writer.work()[0]), ("unsure", "put"))

    def test_lost_and_found(self):
        self.ann.put((("kiwi", 1),))
        self.ann.ready()
        self.lost("lost", self.ann)
        put(self.store, ("plum", 2))
        self.assertIs(self.ann.found(), True)
        self.assertEqual((self.ann.stage(), rows(self.store)), ("idle", (("fig", 3), ("kiwi", 1), ("plum", 2))))
        self.refused(NotNow, self.ann.found, state="idle")

    def test_lost_and_not_found(self):
        for word in ("void", "lost"):
            store = self.store = store_of()
            ann = begun(store)
            ann.put((("kiwi", 1),))
            ann.ready()
            if word == "lost":
                put(store, ("fig", 3))
            self.lost(word, ann)
            self.assertIs(ann.found(), False)
            self.assertEqual((ann.stage(), ann.work()[0]), ("held", "put"))
            self.refused(NotNow, ann.swap, state="held")
            ann.ready()
            ann.swap()
            self.assertIn(("kiwi", 1), rows(store))

    def test_found_asks_for_the_very_work(self):
        put(self.store, ("plum", 2), title="bob")
        bob = begun(self.store, "bob")
        bob.put((("kiwi", 1),))
        bob.ready()
        self.lost("void", bob)
        self.assertEqual(self.store.done("fruit", "bob"), (1, 2))
        self.assertIs(bob.found(), False)

    def test_found_where_it_is_too_late_for_all_else(self):
        self.ann.put((("kiwi", 1),))
        self.ann.ready()
        self.lost("lost", self.ann)
        put(self.store, ("plum", 2))
        commit(self.store, lambda zed: zed.let_go(keep=1, age=0))
        self.store.wait(50)
        self.assertIs(self.ann.found(), True)


class Commits(Refusing):
    def setUp(self):
        self.store = store_of()
        put(self.store, ("fig", 3))
        self.ann = begun(self.store)
        self.ann.put((("kiwi", 1),))
        self.count = 0

    def meanwhile(self, times):
        """A look that puts a row of another Writer, so many times."""
        def look(_):
            if self.count < times:
                put(self.store, ("plum", self.count))
            self.count += 1
        return look

    def test_of_a_held_and_of_a_ready_one(self):
        self.assertEqual((self.ann.commit(), self.ann.stage()), (2, "idle"))
        self.ann.begin("fruit")
        self.ann.key("many", 1)
        self.ann.ready()
        put(self.store, ("plum", 1))
        self.assertEqual((self.ann.commit(), rows(self.store)), (4, (("fig", 3),)))

    def test_tries(self):
        self.assertEqual(self.ann.commit(look=self.meanwhile(3)), 5)
        self.assertEqual((self.count, len(rows(self.store))), (4, 5))
        self.assertEqual((self.ann.stage(), self.ann.busy()), ("idle", False))

    def test_tired(self):
        self.refused(Tired, lambda: self.ann.commit(look=self.meanwhile(9)), tries=4)
        self.assertEqual((self.count, self.ann.stage(), self.ann.busy()), (4, "held", False))
        self.refused(Tired, lambda: self.ann.commit(tries=1, look=self.meanwhile(9)), tries=1)
        self.refused(Tired, lambda: self.ann.commit(tries=2, look=self.meanwhile(9)), tries=2)
        self.assertEqual((self.count, self.ann.stage()), (7, "held"))
        self.assertEqual(self.ann.commit(), 9)

    def test_the_last_try_may_do(self):
        self.assertEqual(self.ann.commit(tries=3, look=self.meanwhile(2)), 4)

    def test_refused_in_a_later_try(self):
        self.ann.leave()
        self.ann.begin("fruit")
        self.ann.drop((("many", "is", 0),))
        with self.assertRaises(Clash) as caught:
            self.ann.commit(look=self.meanwhile(1))
        self.assertEqual((caught.exception.number, caught.exception.word), (2, "put"))
        self.assertEqual((self.count, self.ann.stage(), self.ann.busy()), (1, "held", False))

    def test_too_late_behind_look(self):
        self.refused(TooLate, lambda: self.ann.commit(look=lambda _: self.store.wait(10)), base=1)
        self.assertEqual((self.ann.stage(), self.ann.busy(), len(rows(self.store))), ("held", False, 1))

    def test_what_look_raises_comes_out_as_it_is(self):
        class Odd(Exception):
            pass

        for error in (Odd("a"), Crash(77), Lost(78), Busy(), Clash(1, "put", "d1"), TooLate(5), KeyError("k")):
            def look(_):
                raise error

            with self.assertRaises(error.__class__) as caught:
                self.ann.commit(look=look)
            self.assertIs(caught.exception, error)
            self.assertEqual((self.ann.stage(), self.ann.busy(), self.ann.work()[0]), ("ready", False, "put"))
        self.assertEqual((self.ann.swap(), len(rows(self.store))), (2, 2))

    def test_another_ones_trouble_within_it(self):
        for word, stage in (("crash", "dead"), ("lost", "begun")):
            bob = begun(self.store, "bob")

            def look(_):
                self.store.shelf().trouble(1, word)
                bob.key("many", 1)

            with self.assertRaises((Crash, Lost)):
                self.ann.commit(look=look)
            self.assertEqual((self.ann.stage(), self.ann.busy(), bob.stage()), ("ready", False, stage))
        self.assertEqual(self.ann.swap(), 2)

    def test_a_commit_within_a_commit(self):
        self.refused(Busy, lambda: self.ann.commit(look=lambda told: told.commit()))
        self.assertEqual(self.ann.stage(), "ready")

        def look(_):
            if self.count == 0:
                self.count += 1
                bob = begun(self.store, "bob")
                bob.put((("plum", 1),))
                self.assertEqual(bob.commit(look=lambda told: self.assertIs(told, bob)), 2)

        self.assertEqual(self.ann.commit(look=look), 3)

    def test_look_is_asked_with_each_ready_head(self):
        seen = []

        def look(told):
            seen.append((told.stage(), told.busy(), len(self.store.shelf())))
            if len(seen) < 3:
                put(self.store, ("plum", 1))

        self.ann.commit(tries=7, look=look)
        self.assertEqual([told[:2] for told in seen], [("ready", True)] * 3)
        self.assertEqual(len(set(seen)), 3)


class TagsAndLets(Refusing):
    def setUp(self):
        self.store = store_of()
        for moment in range(1, 6):
            self.store.wait(1)
            put(self.store, ("fig", moment))

    def numbers(self):
        return [row[0] for row in self.store.head("fruit")[5]]

    def test_a_tag_makes_no_commit(self):
        before = self.store.head("fruit")
        shelf = self.store.shelf()
        names = shelf.names()
        self.assertEqual(commit(self.store, lambda zed: zed.tag(tag="new", number=3), "ann"), 5)
        self.assertEqual(self.store.head("fruit"), (*before[:6], (("new", 3),), (("ann", 1, 5), ("zed", 5, 5))))
        self.assertEqual([name[0] for name in shelf.names() if name not in names], ["h"])
        commit(self.store, lambda zed: zed.tag("a", 5))
        commit(self.store, lambda zed: zed.tag("old", 3))
        self.assertEqual(self.store.head("fruit")[6], (("a", 5), ("new", 3), ("old", 3)))
        self.assertEqual(commit(self.store, lambda zed: zed.untag("new"), "ann"), 5)
        self.assertEqual(self.store.head("fruit")[5:],
                         (before[5], (("a", 5), ("old", 3)), (("ann", 2, 5), ("zed", 7, 5))))

    def test_keep(self):
        commit(self.store, lambda zed: zed.let_go(keep=2, age=0))
        self.assertEqual(self.numbers(), [4, 5])
        self.assertEqual(self.store.done("fruit", "zed"), (6, 5))
        commit(self.store, lambda zed: zed.let_go(keep=9, age=0))
        self.assertEqual(self.numbers(), [4, 5])
        put(self.store, ("kiwi", 1))
        self.assertEqual(self.numbers(), [4, 5, 6])
        self.assertEqual(rows(self.store, 4), tuple([("fig", many) for many in range(1, 5)]))

    def test_age(self):
        for age, numbers in ((1, [5]), (2, [4, 5]), (3, [3, 4, 5]), (5, [1, 2, 3, 4, 5]), (6, [0, 1, 2, 3, 4, 5])):
            self.setUp()
            commit(self.store, lambda zed: zed.let_go(keep=1, age=age))
            self.assertEqual(self.numbers(), numbers)

    def test_by_default_three_and_those_of_less_than_ten_moments(self):
        commit(self.store, lambda zed: zed.let_go())
        self.assertEqual(self.numbers(), [0, 1, 2, 3, 4, 5])
        self.store.wait(6)
        commit(self.store, lambda zed: zed.let_go())
        self.assertEqual(self.numbers(), [2, 3, 4, 5])
        self.store.wait(50)
        commit(self.store, lambda zed: zed.let_go())
        self.assertEqual(self.numbers(), [3, 4, 5])

    def test_tags(self):
        commit(self.store, lambda zed: zed.tag("a", 0))
        commit(self.store, lambda zed: zed.tag("b", 3))
        commit(self.store, lambda zed: zed.let_go(keep=1, age=0))
        self.assertEqual(self.numbers(), [0, 3, 5])
        self.assertEqual(rows(self.store, 3), tuple([("fig", many) for many in range(1, 4)]))
        commit(self.store, lambda zed: zed.untag("a"))
        self.assertEqual(self.numbers(), [0, 3, 5])
        commit(self.store, lambda zed: zed.let_go(keep=1, age=0))
        self.assertEqual(self.numbers(), [3, 5])

    def test_at_the_moment_of_ready(self):
        ann = begun(self.store)
        ann.let_go(keep=1, age=3)
        self.store.wait(1)
        put(self.store, ("kiwi", 1), title="bob")
        commit(self.store, lambda zed: zed.tag("a", 0), "bob")
        ann.ready()
        self.store.wait(3)
        self.assertEqual((ann.swap(), self.numbers()), (6, [0, 4, 5, 6]))
        self.assertEqual(self.store.head("fruit")[7][0], ("ann", 1, 6))

    def test_words_of_works(self):
        ann = begun(self.store)
        for act, more in ((lambda: ann.tag("a", 2), ("tag", ("a", 2))), (lambda: ann.let_go(keep=4, age=0), ("let", (4, 0))),
                          (ann.let_go, ("let", (3, 10)))):
            act()
            self.assertEqual(ann.work(), (more[0], "ann", 1, 5, None, (), (), (), (), more[1]))
            ann.leave()
            ann.begin("fruit")
        ann.tag("a", 2)
        ann.commit()
        ann.begin("fruit")
        ann.untag("a")
        self.assertEqual(ann.work(), ("untag", "ann", 2, 5, None, (), (), (), (), "a"))


if __name__ == "__main__":
    unittest.main()
