"""Promises 27 and 28: which commits touch a work, and what is told of a work and the commits behind its base."""

import unittest

from hands import Hand
from meetings import NAME, RULES, WORKS, Meeting, work_of
from refusing import Refusing
from stillfiles.errors import Clash, TooLate
from stillfiles.meeting import met
from stored import begun, commit, data_files, entries, put, store_of

LED = ("led", ((1, ()),))


class Words(Meeting):
    """Of each word of works, which words of commits that bring nothing touch it."""

    def touched(self, word, shape=0):
        self.setUp()
        self.hand.commit(word=word, shape=shape)
        return {name: self.met(work)[2] for name, work in WORKS.items() if self.met(work) != LED}

    def test_commits_that_bring_nothing(self):
        for word in ("put", "drop", "change", "key", "gather"):
            self.assertEqual(self.touched(word), {})
        self.assertEqual(self.touched("back"), {"drop": "back", "change": "back", "gather": "back"})
        self.assertEqual(self.touched("reshape"), {"reshape": "shape", "rerule": "shape"})
        self.assertEqual(self.touched("rerule"), {"reshape": "rule", "rerule": "rule"})

    def test_a_column_that_is_out(self):
        shaped = {"drop": "shape", "change": "shape", "key": "shape"}
        self.assertEqual(self.touched("put", shape=2), shaped)
        self.assertEqual(self.touched("reshape", shape=2), {**shaped, "reshape": "shape", "rerule": "shape"})
        self.assertEqual(self.touched("rerule", shape=2), {**shaped, "reshape": "rule", "rerule": "rule"})
        self.assertEqual(self.touched("back", shape=2), {"drop": "back", "change": "back", "gather": "back", "key": "shape"})
        self.assertEqual(self.touched("put", shape=1), {})

    def test_of_change_its_own_column_and_those_of_its_tests(self):
        self.hand.commit(shape=2)
        for tests, more, is_touched in (((), 2, True), ((), 1, False), (((2, "is", 1),), 1, True),
                                        (((1, "is", "a"), (2, "is", 1)), 1, True), (((1, "is", "a"),), 1, False)):
            told = self.met(work_of("change", reads=tests, more=more))
            self.assertEqual(told, ("clash", 1, "shape", None) if is_touched else LED)

    def test_of_drop_those_of_its_tests(self):
        self.hand.commit(shape=2)
        self.assertEqual(self.met(self.drop((1, "is", "a"))), LED)
        self.assertEqual(self.met(self.drop((1, "is", "a"), (2, "is", 1))), ("clash", 1, "shape", None))

    def test_the_rest_never(self):
        new = self.hand.data(1, (("kiwi", 1), ("date", None)))
        rows = (self.hand.list(new), self.hand.list(self.hand.marks(1, self.one[1], (0,)), self.hand.key(1, 2, 1)))
        for word in ("put", "gather", "back", "reshape", "rerule"):
            self.hand.commit(*rows, word=word, shape=2, rule=1, keep=self.start[1:])
        led = ("led", tuple([(number, ()) for number in range(1, 6)]))
        for word in ("put", "back", "tag", "untag", "let"):
            self.assertEqual(self.met(WORKS[word]), led)


class Files(Meeting):
    def test_took(self):
        self.hand.commit(keep=self.start[1:], word="gather")
        for marks, file in (((self.one,), self.one), ((self.two, self.one), self.one), ((self.two,), None), ((), None)):
            told = self.met(self.drop((2, "from", 90), marks=marks))
            self.assertEqual(told, ("clash", 1, "took", file[1]) if file else LED)
            told = self.met(work_of("gather", takes=tuple([entry[1] for entry in marks])))
            self.assertEqual(told, ("clash", 1, "took", file[1]) if file else LED)

    def test_took_by_whatever_word(self):
        for word in ("gather", "put", "key", "make"):
            self.setUp()
            self.hand.commit(keep=self.start[1:], word=word)
            self.assertEqual(self.met(work_of("gather", takes=(self.one[1],))), ("clash", 1, "took", self.one[1]))

    def test_the_first_by_the_work(self):
        self.hand.commit(keep=(), word="gather")
        for files in ((self.one, self.three), (self.three, self.one), (self.two, self.three, self.one)):
            self.assertEqual(self.met(self.drop((2, "from", 90), marks=files)), ("clash", 1, "took", files[0][1]))
        takes = (self.three[1], self.two[1])
        self.assertEqual(self.met(work_of("gather", takes=takes)), ("clash", 1, "took", self.three[1]))

    def test_marked(self):
        marks = self.hand.marks(1, self.two[1], (0,))
        self.hand.commit(self.hand.list(marks, self.hand.marks(1, self.one[1], (1,))), word="drop")
        for files, file in (((self.one,), self.one), ((self.three, self.two, self.one), self.two), ((self.three,), None)):
            told = self.met(self.drop((2, "from", 90), marks=files))
            self.assertEqual(told, ("clash", 1, "marked", file[1]) if file else LED)
            told = self.met(work_of("gather", takes=tuple([entry[1] for entry in files])))
            self.assertEqual(told, ("clash", 1, "marked", file[1]) if file else LED)

    def test_marks_that_were_there(self):
        self.hand.commit(self.hand.list(self.hand.marks(1, self.one[1], (1,))), word="drop")
        self.hand.commit()
        work = work_of("gather", base=1, takes=(self.one[1],))
        self.assertEqual(self.met(work), ("led", ((2, ()),)))
        self.assertEqual(self.met(work_of("gather", takes=(self.one[1],)))[1:3], (1, "marked"))

    def test_took_ahead_of_marked(self):
        marks = self.hand.marks(1, self.two[1], (0,))
        self.hand.commit(self.hand.list(marks), keep=self.start[1:])
        for files in ((self.two, self.one), (self.one, self.two)):
            self.assertEqual(self.met(self.drop((2, "from", 90), marks=files)), ("clash", 1, "took", self.one[1]))
        self.assertEqual(self.met(self.drop((2, "from", 90), marks=(self.two,))), ("clash", 1, "marked", self.two[1]))


class Reads(Meeting):
    def test_put_by_spans(self):
        new = self.hand.data(1, (("kiwi", 20), ("date", 30), (None, 25)))
        self.hand.commit(self.hand.list(new))
        for tests, k in ((((2, "from", 31),), 0), (((2, "from", 30),), None), (((1, "is", None),), None), ((), None),
                         (((2, "is", None),), 0), (((2, "from", 1), (1, "from", "l")), 1),
                         (((2, "below", 20), (1, "from", "l")), 0), (((2, "below", 21), (2, "from", 30)), None)):
            told = self.met(self.drop(*tests))
            self.assertEqual(told, ("clash", 1, "put", new[1]) if k is None else ("led", ((1, ((new[1], k),)),)))

    def test_put_by_part_and_by_a_fill(self):
        parted = self.hand.data(1, (("ab", 12), ("ad", 18)), rule=1, part=(1,))
        marked = self.hand.data(2, (("ac", 15, "a"),), shape=1)
        self.hand.commit(self.hand.list(parted), shape=1)
        self.hand.commit(self.hand.list(marked), shape=1)
        self.hand.commits[0] = (*self.hand.commits[0][:6], 1, 0)
        for tests, bars in ((((2, "is", 15),), (None, None)), (((2, "is", 25),), (0, 0)), (((3, "is", "x"),), (None, 0)),
                            (((3, "is", "a"),), (0, None)), (((1, "from", "a"), (3, "is", "b")), (1, 1)),
                            (((3, "is", "x"), (2, "from", 16)), (None, 0)), (((3, "is", None),), (0, 0))):
            told = self.met(self.drop(*tests))
            if bars[0] is None:
                self.assertEqual(told, ("clash", 1, "put", parted[1]))
            elif bars[1] is None:
                self.assertEqual(told, ("clash", 2, "put", marked[1]))
            else:
                self.assertEqual(told, ("led", ((1, ((parted[1], bars[0]),)), (2, ((marked[1], bars[1]),)))))

    def test_put_by_a_part_alone(self):
        rules = (*RULES, ((2, ("rest", 10)),))
        self.hand.rules = rules
        rest = self.hand.data(1, (("ab", 11), ("ad", 31)), rule=2, part=(1,))
        self.hand.commit(self.hand.list(rest))
        self.assertEqual(self.met(self.drop((2, "is", 22))), ("led", ((1, ((rest[1], 0),)),)))
        self.assertEqual(self.met(self.drop((2, "is", 21))), ("clash", 1, "put", rest[1]))
        self.assertEqual(self.met(self.drop((2, "from", 22))), ("clash", 1, "put", rest[1]))

    def test_what_is_gathered_is_not_put(self):
        new = self.hand.data(0, (("kiwi", 20),))
        self.hand.commit(self.hand.list(new), word="gather")
        self.assertEqual(self.met(self.drop()), LED)
        self.assertEqual(self.met(self.drop((2, "is", 20))), LED)
        self.assertEqual(self.met(work_of("change", reads=(), more=2)), LED)

    def test_what_is_changed_is_put(self):
        new = self.hand.data(1, (("kiwi", 20),))
        self.hand.commit(self.hand.list(new), word="change")
        self.assertEqual(self.met(self.drop((2, "is", 20))), ("clash", 1, "put", new[1]))

    def test_key(self):
        key = self.hand.key(1, 2, 20)
        self.hand.commit(self.hand.list(key), word="key")
        for tests, k in (((), None), (((1, "is", "a"),), None), (((2, "is", 20),), None), (((2, "is", 21),), 0),
                         (((1, "is", "a"), (2, "from", 20), (2, "below", 20)), 2), (((2, "from", "a"),), 0),
                         (((2, "from", 1), (2, "below", 99), (1, "is", None)), None)):
            told = self.met(self.drop(*tests))
            self.assertEqual(told, ("clash", 1, "key", key[1]) if k is None else ("led", ((1, ((key[1], k),)),)))
        blank = self.hand.key(2, 1, None)
        self.hand.commit(self.hand.list(blank), word="key")
        self.assertEqual(self.met(self.drop((1, "is", None), (2, "is", 1))), ("clash", 2, "key", blank[1]))

    def test_the_first_by_the_commits_entries(self):
        one, two = self.hand.data(1, (("kiwi", 20),)), self.hand.data(1, (("date", 30),))
        keys = [self.hand.key(1, 2, 20), self.hand.key(1, 2, 30)]
        self.hand.commit(self.hand.list(keys[1], two), self.hand.list(keys[0], one))
        self.assertEqual(self.met(self.drop()), ("clash", 1, "put", two[1]))
        self.assertEqual(self.met(self.drop((2, "below", 30))), ("clash", 1, "put", one[1]))
        self.assertEqual(self.met(self.drop((1, "is", "z"))), ("clash", 1, "key", keys[1][1]))
        self.assertEqual(self.met(self.drop((1, "is", "z"), (2, "below", 30))), ("clash", 1, "key", keys[0][1]))
        shows = ((two[1], 0), (one[1], 0), (keys[1][1], 0), (keys[0][1], 0))
        self.assertEqual(self.met(self.drop((2, "is", 1))), ("led", ((1, shows),)))
        self.assertEqual(self.met(work_of("change", reads=((2, "is", 1),), more=1)), ("led", ((1, shows),)))
        self.assertEqual(self.met(work_of("gather")), LED)

    def test_keys_count_with_gather_too(self):
        key = self.hand.key(1, 2, 20)
        self.hand.commit(self.hand.list(self.hand.data(0, (("kiwi", 20),)), key), word="gather")
        self.assertEqual(self.met(self.drop((2, "is", 3))), ("led", ((1, ((key[1], 0),)),)))
        self.assertEqual(self.met(self.drop()), ("clash", 1, "key", key[1]))


class Orders(Meeting):
    def test_by_commits_then_by_words(self):
        new, key = self.hand.data(2, (("kiwi", 20),)), self.hand.key(2, 2, 20)
        marks = self.hand.marks(2, self.two[1], (0,))
        self.hand.commit()
        self.hand.commit(self.hand.list(new, key, marks), keep=self.start[1:], shape=2, word="back")
        work = self.drop((2, "from", 1), marks=(self.one, self.two))
        steps = (("back", None), ("shape", None), ("took", self.one[1]), ("marked", self.two[1]), ("put", new[1]),
                 ("key", key[1]))
        for word, file in steps:
            self.assertEqual(self.met(work), ("clash", 2, word, file))
            row = self.hand.commits[2]
            if word == "back":
                self.hand.commits[2] = (2, "put", *row[2:])
            elif word == "shape":
                self.hand.commits[2] = (*row[:6], 0, 0)
            elif word == "took":
                work = self.drop((2, "from", 1), marks=(self.two,))
            elif word == "marked":
                work = self.drop((2, "from", 1))
            elif word == "put":
                self.hand.commits[2] = (2, "gather", *row[2:])

    def test_the_first_commit_of_several(self):
        self.hand.commit(self.hand.list(self.hand.key(1, 2, 20)), word="key")
        self.hand.commit(word="back")
        self.assertEqual(self.met(self.drop())[1:3], (1, "key"))
        self.assertEqual(self.met(self.drop((2, "is", 1)))[1:3], (2, "back"))
        self.assertEqual(self.met(work_of("drop", base=1, reads=()))[1:3], (2, "back"))
        self.assertEqual(self.met(work_of("drop", base=2, reads=())), ("led", ()))

    def test_a_commits_own_back_and_one_behind_it(self):
        self.hand.commit(keep=self.start[:1], word="gather")
        self.hand.commit(keep=self.start, word="back")
        work = work_of("gather", base=1, takes=(self.one[1],))
        self.assertEqual(self.met(work), ("clash", 2, "back", None))
        self.assertEqual(self.met(work_of("gather", base=2, takes=(self.one[1],))), ("led", ()))
        self.assertEqual(self.met(work_of("gather", takes=(self.two[1],))), ("clash", 1, "took", self.two[1]))
        # A back is led over a back.
        self.assertEqual(self.met(work_of("back", more=0)), ("led", ((1, ()), (2, ()))))

    def test_too_late(self):
        for number in (1, 2, 4):
            self.hand.commit(number=number)
        for word, work in WORKS.items():
            for base in (0, 1, 2, 3, 5, 10 ** 30):
                self.refused(TooLate, lambda: self.met((*work[:3], base, *work[4:])), base=base)
            self.assertEqual(self.met((*work[:3], 4, *work[4:])), ("led", ()), word)

    def test_too_late_goes_ahead(self):
        self.hand.commit(word="back")
        self.hand.commit(number=5)
        self.refused(TooLate, lambda: self.met(self.drop()), base=0)

    def test_by_places_and_by_names(self):
        self.hand.commit()
        head = self.hand.head()
        self.assertEqual(met(place=self.hand.folder(), head=head, work=WORKS["put"]), LED)

    def test_numbers_far_apart(self):
        self.hand.commit(number=10 ** 30)
        self.refused(TooLate, lambda: self.met(WORKS["put"]), base=0)


class InStores(Refusing):
    """The same as Writers meet it."""

    def started(self):
        store = store_of()
        put(store, ("apple", 3), ("fig", 5))
        put(store, ("pear", 12))
        return store

    def test_led_and_refused(self):
        acts = {
            "put": lambda zed: zed.put((("kiwi", 20),)), "drop": lambda zed: zed.drop((("name", "is", "pear"),)),
            "change": lambda zed: zed.change((("name", "is", "pear"),), "many", 13), "key": lambda zed: zed.key("many", 12),
            "out": lambda zed: zed.reshape((("out", "many"),)), "add": lambda zed: zed.reshape((("add", "a", "sign", "x"),)),
            "rerule": lambda zed: zed.rerule(()), "back": lambda zed: zed.back(1),
            "gather": lambda zed: zed.gather((data_files(zed_store[0])[0],)), "tag": lambda zed: zed.tag("a", 1),
        }
        mine = {
            "put": (lambda ann: ann.put((("date", 30),)), {}),
            "drop": (lambda ann: ann.drop((("many", "below", 13),)),
                     {"drop": "marked", "change": "marked", "key": "key", "out": "shape", "back": "back", "gather": "took"}),
            "change": (lambda ann: ann.change((("name", "is", "apple"),), "many", 9),
                       {"key": "key", "out": "shape", "back": "back", "gather": "took"}),
            "key": (lambda ann: ann.key("many", 3), {"out": "shape"}),
            "reshape": (lambda ann: ann.reshape((("out", "many"),)), {"out": "shape", "add": "shape", "rerule": "rule"}),
            "rerule": (lambda ann: ann.rerule((("many", ("same",)),)), {"out": "shape", "add": "shape", "rerule": "rule"}),
            "gather": (lambda ann: ann.gather(tuple(data_files(zed_store[0]))),
                       {"drop": "marked", "change": "marked", "back": "back", "gather": "took"}),
            "back": (lambda ann: ann.back(1), {}), "tag": (lambda ann: ann.tag("b", 1), {}),
            "let": (lambda ann: ann.let_go(), {}),
        }
        for name, (act, clashes) in mine.items():
            for other, done in acts.items():
                store = self.started()
                zed_store = [store]
                ann = begun(store)
                act(ann)
                commit(store, done)
                if other in clashes:
                    with self.assertRaises(Clash) as caught:
                        ann.commit()
                    self.assertEqual((name, other, caught.exception.word), (name, other, clashes[other]))
                    self.assertEqual(caught.exception.number, 3)
                else:
                    ann.commit()
                    self.assertEqual(ann.stage(), "idle", (name, other))

    def test_what_back_brings_again(self):
        store = self.started()
        commit(store, lambda zed: zed.gather((data_files(store)[0],)))
        ann = begun(store)
        ann.drop((("many", "is", 3),))
        commit(store, lambda zed: zed.back(1))
        self.assertEqual(met(store.shelf(), store.head("fruit"), ann.work()), ("clash", 4, "back", None))
        self.assertEqual([entry[2] for entry in entries(store)], [1])


if __name__ == "__main__":
    unittest.main()
