"""Promise 28: checkers of what is told of a work and the commits behind its base, whoever tells it."""

import itertools
import unittest

from meetings import WORKS, Meeting, work_of
from right_contents import at_place, paths_of, with_place
from stillfiles.meetchecks import clash_holds, is_work, led_holds
from stored import begun, commit, data_files, put, store_of
from things import ANYTHING, LARGE

WORDS = ("back", "shape", "took", "marked", "put", "key", "rule", "gather", "drop", "", None, True)


class Checking(Meeting):
    def led(self, work, thing):
        """Whether it holds, asked of the hand's folder."""
        self.assertIs(is_work(work), True, work)
        told = led_holds(self.hand.folder(), self.hand.head(), work, thing)
        self.assertIn(told, (True, False))
        return told

    def clash(self, work, thing):
        self.assertIs(is_work(work), True, work)
        told = clash_holds(self.hand.folder(), self.hand.head(), work, thing)
        self.assertIn(told, (True, False))
        return told

    def clashes(self, work):
        """All that hold, of every number, word and file that there are."""
        numbers = [*[commit[0] for commit in self.hand.commits], -1, LARGE, True, False, None]
        found = []
        for number, word, file in itertools.product(numbers, WORDS, (None, True, 0, *self.hand.files)):
            if self.clash(work, ("clash", number, word, file)):
                self.assertIs(number.__class__, int)
                found.append((number, word, file))
        return set(found)


class Led(Checking):
    def setUp(self):
        """Behind commit 0: a put and a key, nothing, a gather, a put of what has another column, too."""
        Meeting.setUp(self)
        hand = self.hand
        self.new = hand.data(1, (("kiwi", 20), ("date", 30)))
        self.key = hand.key(1, 2, 20)
        self.marked = hand.data(4, (("ac", 15, "a"),), shape=1)
        hand.commit(hand.list(self.key), hand.list(self.new))
        hand.commit(shape=1)
        hand.commit(hand.list(hand.data(0, (("plum", 40),))), word="gather", shape=1)
        hand.commit(hand.list(self.marked), shape=1)
        # Both data files can't meet either test of it, the key just can't meet the second one.
        self.work = self.drop((1, "is", "zzz"), (2, "from", 90))

    def paper(self, one, two, three):
        return ("led", ((1, ((self.new[1], one), (self.key[1], two))), (2, ()), (3, ()),
                        (4, ((self.marked[1], three),))))

    def test_the_paper_of_met(self):
        self.assertEqual(self.met(self.work), self.paper(0, 1, 0))
        self.assertIs(led_holds(place=self.hand.folder(), head=self.hand.head(), work=self.work,
                                thing=self.paper(0, 1, 0)), True)
        for word, work in WORKS.items():
            told = self.met(work)
            self.assertEqual(self.led(work, told), told[0] == "led", word)
            self.assertEqual(self.clash(work, told), told[0] == "clash", word)

    def test_any_test_that_cant_be_met(self):
        ks = (-1, 0, 1, 2, LARGE, None, True, False, "0", (0,), [], {})
        for one, two, three in itertools.product(ks, repeat=3):
            right = type(one) is type(two) is type(three) is int and one in (0, 1) and two == 1 and three in (0, 1)
            self.assertEqual(self.led(self.work, self.paper(one, two, three)), right, (one, two, three))
        change = work_of("change", reads=self.work[4], more=1)
        self.assertIs(self.led(change, self.paper(1, 1, 0)), True)
        self.assertIs(self.led(change, self.paper(1, 0, 0)), False)

    def test_not_by_a_test_that_can_be_met(self):
        work = self.drop((2, "from", 20), (2, "below", 15), (1, "from", "zz"))
        told = [k for k in range(3) if self.led(work, self.paper(k, 1, 2))]
        self.assertEqual(told, [1, 2])
        # The key's column is met by the first test, and hasn't the third one.
        self.assertEqual([k for k in range(3) if self.led(work, self.paper(1, k, 2))], [1])
        self.assertEqual([k for k in range(3) if self.led(work, self.paper(1, 1, k))], [0, 1, 2])

    def test_rows_too_few_too_many_exchanged(self):
        rows = self.paper(0, 1, 0)[1]
        for others in (rows[:-1], rows[1:], (*rows, rows[-1]), (*rows, (5, ())), ((0, ()), *rows),
                       (rows[1], rows[0], *rows[2:]),
                       (*rows[:2], rows[3], rows[2]), rows[::-1], (rows[0], *rows), (), (rows,),
                       (*rows[:1], *rows[2:])):
            self.assertIs(self.led(self.work, ("led", others)), False, others)

    def test_shows_too_few_too_many_exchanged(self):
        rows = self.paper(0, 1, 0)[1]
        one, key = rows[0][1]
        for shows in ((), (one,), (key,), (key, one), (one, key, one), (one, one), (one, key, (self.marked[1], 0)),
                      (key[::-1], one),
                      ((self.marked[1], 0), key), ((self.one[1], 0), key), ((*one, 0), key), (one[:1], key), one):
            self.assertIs(self.led(self.work, ("led", ((1, shows), *rows[1:]))), False, shows)
        for shows in ((one,), ((self.new[1], 0),), ((),), None):
            self.assertIs(self.led(self.work, ("led", (*rows[:1], (2, shows), *rows[2:]))), False, shows)
        # What is gathered isn't shown.
        gathered = [name for name, content in self.hand.files.items() if content == ("data", 0, 0, (),
                                                                                     (("plum", 40),))][-1]
        self.assertIs(self.led(self.work, ("led", (*rows[:2], (3, ((gathered, 0),)), rows[3]))), False)

    def test_one_thing_otherwise(self):
        paper = self.paper(1, 1, 1)
        self.assertIs(self.led(self.work, paper), True)
        for path in paths_of(paper):
            there = at_place(paper, path)
            others = [True, False, None, -1, LARGE, "", "led", (), [], {}, [there], (there,)]
            if isinstance(there, tuple):
                others += [list(there), there[:-1], (*there, there)]
            for other in others:
                if other != there:
                    self.assertIs(self.led(self.work, with_place(paper, path, other)), False, (path, other))
        # Python takes these for the same as what stood there.
        self.assertIs(self.led(self.work, with_place(paper, (1, 0, 0), True)), False)
        self.assertIs(self.led(self.work, with_place(paper, (1, 0, 1, 0, 1), True)), False)

    def test_a_work_that_reads_nothing_has_no_shows(self):
        for word in ("put", "reshape", "back", "tag", "untag", "let", "gather"):
            self.assertIs(self.led(WORKS[word], ("led", tuple([(number, ()) for number in range(1, 5)]))), True)
            self.assertIs(self.led(WORKS[word], self.paper(0, 1, 0)), False)

    def test_a_work_that_a_commit_touches(self):
        for work in (self.drop((2, "from", 30)), self.drop((1, "is", "zzz")),
                     self.drop((1, "is", "ac"), (2, "below", 16))):
            self.assertEqual(self.met(work)[0], "clash")
            ks = range(len(work[4]))
            for one, two, three in itertools.product(ks, repeat=3):
                self.assertIs(self.led(work, self.paper(one, two, three)), False)
        self.assertIs(self.led(self.drop(), self.paper(0, 0, 0)), False)
        taken = work_of("gather", takes=(self.new[1],), base=1)
        rows = tuple([(number, ()) for number in range(2, 6)])
        self.assertIs(self.led(taken, ("led", rows[:-1])), True)
        self.hand.commit(keep=self.start, word="gather")
        self.assertIs(self.led(taken, ("led", rows)), False)

    def test_by_the_base(self):
        rows = self.paper(0, 1, 0)[1]
        for base in range(5):
            work = (*self.work[:3], base, *self.work[4:])
            for start in range(5):
                self.assertIs(self.led(work, ("led", rows[start:])), start == base)

    def test_where_the_head_doesnt_tell_each_number(self):
        self.hand.commits[3] = (9, *self.hand.commits[3][1:])
        self.hand.commits[4] = (10, *self.hand.commits[4][1:])
        rows = self.paper(0, 1, 0)[1]
        for base in (0, 1, 2, 3, 8, 11, LARGE):
            work = (*WORKS["put"][:3], base, *WORKS["put"][4:])
            for told in ((), ((10, ()),), ((9, ()), (10, ())), ((1, ()), (2, ()), (9, ()), (10, ())), rows):
                self.assertIs(self.led(work, ("led", told)), False)
        self.assertIs(self.led((*WORKS["put"][:3], 9, *WORKS["put"][4:]), ("led", ((10, ()),))), True)
        self.assertIs(self.led((*WORKS["put"][:3], 10, *WORKS["put"][4:]), ("led", ())), True)

    def test_of_anything(self):
        for thing in ANYTHING:
            self.assertIs(self.led(self.work, thing), False)
            self.assertIs(self.led(self.work, ("led", thing)), False)
            self.assertIs(self.led(self.work, (thing, self.paper(0, 1, 0)[1])), False)
            self.assertIs(self.led(self.work, with_place(self.paper(0, 1, 0), (1, 1), thing)), False)


class Clashes(Checking):
    def test_all_that_are_so(self):
        """One commit that touches a drop by each of its six words, some by two files, and a later one."""
        hand = self.hand
        new, more = hand.data(1, (("kiwi", 20),)), hand.data(1, (("date", 95),))
        keys = [hand.key(1, 2, 20), hand.key(1, 2, 95), hand.key(1, 3, "q")]
        marks = [hand.marks(1, self.two[1], (0,)), hand.marks(1, self.three[1], (0,))]
        hand.commit(hand.list(*keys, new), hand.list(more, *marks), keep=self.start[1:], word="back", shape=2)
        hand.commit(hand.list(hand.marks(2, self.two[1], (0,))), keep=hand.lists[1:], word="drop")
        late = hand.lists[-1][0]
        work = self.drop((2, "from", 90), marks=(self.two, self.one))
        one, two = self.one[1], self.two[1]
        first = {(1, "back", None), (1, "shape", None), (1, "took", one), (1, "marked", two), (1, "put", more[1]),
                 (1, "key", keys[1][1]), (1, "key", keys[2][1])}
        # With the first list two of its rows go.
        then = {(2, "took", two), (2, "marked", two)}
        self.assertEqual(self.clashes(work), {*first, *then})
        self.assertIn(late, self.hand.files)
        change = work_of("change", reads=((1, "is", "kiwi"),), marks=work[7], more=3)
        self.assertEqual(self.clashes(change), {(1, "back", None), (1, "took", one), (1, "marked", two),
                                                (1, "put", new[1]),
                                                (1, "key", keys[0][1]), (1, "key", keys[1][1]), (1, "key", keys[2][1]),
                                                (2, "shape", None), *then})
        self.assertEqual(self.clashes(work_of("gather", takes=(self.three[1], one))),
                         {(1, "back", None), (1, "took", one), (1, "marked", self.three[1])})
        self.assertEqual(self.clashes(WORKS["key"]), {(1, "shape", None)})
        for word in ("put", "back", "tag", "untag", "let", "reshape", "rerule"):
            self.assertEqual(self.clashes(WORKS[word]), set(), word)

    def test_shapes_and_rules(self):
        for word in ("reshape", "rerule", "put", "reshape"):
            self.hand.commit(word=word)
        told = {(1, "shape", None), (2, "rule", None), (4, "shape", None)}
        for word in WORKS:
            self.assertEqual(self.clashes(WORKS[word]), told if word in ("reshape", "rerule") else set(), word)
        self.assertEqual(self.clashes((*WORKS["rerule"][:3], 2, *WORKS["rerule"][4:])), {(4, "shape", None)})

    def test_the_first_and_a_later_one(self):
        key = self.hand.key(2, 2, 95)
        self.hand.commit(word="back")
        self.hand.commit(self.hand.list(key), word="key")
        work = WORKS["drop"]
        self.assertEqual(self.met(work), ("clash", 1, "back", None))
        self.assertIs(clash_holds(place=self.hand.folder(), head=self.hand.head(), work=work,
                                  thing=("clash", 1, "back", None)), True)
        self.assertEqual(self.clashes(work), {(1, "back", None), (2, "key", key[1])})
        self.assertEqual(self.clashes((*work[:3], 1, *work[4:])), {(2, "key", key[1])})
        self.assertEqual(self.clashes((*work[:3], 2, *work[4:])), set())

    def test_one_thing_otherwise(self):
        key = self.hand.key(1, 2, 95)
        self.hand.commit(self.hand.list(key), word="key")
        right = ("clash", 1, "key", key[1])
        self.assertIs(self.clash(WORKS["drop"], right), True)
        for thing in (list(right), right[1:], right[:-1], (*right, None), ("led", *right[1:]),
                      ("clash", True, *right[2:]),
                      ("clash", "1", *right[2:]), ("clash", 0, *right[2:]), ("clash", 2, *right[2:]),
                      ("clash", 1, "put", key[1]),
                      ("clash", 1, "key", None), ("clash", 1, "key", "k99"), ("clash", 1, "key", (key[1],)),
                      ("clash", 1, ["key"], key[1]),
                      ("clash", [1], "key", key[1]), ("clash", 1, "key", {})):
            self.assertIs(self.clash(WORKS["drop"], thing), False, thing)

    def test_where_the_head_doesnt_tell_each_number(self):
        self.hand.commit(word="back")
        self.hand.commit(word="back", number=3)
        self.assertEqual(self.clashes(WORKS["drop"]), set())
        for base in (1, 2, 4, LARGE):
            self.assertEqual(self.clashes((*WORKS["drop"][:3], base, *WORKS["drop"][4:])), set())
        self.hand.commit(word="back", number=4)
        self.assertEqual(self.clashes((*WORKS["drop"][:3], 3, *WORKS["drop"][4:])), {(4, "back", None)})

    def test_of_anything(self):
        self.hand.commit(word="back")
        right = ("clash", 1, "back", None)
        for thing in ANYTHING:
            self.assertIs(self.clash(WORKS["drop"], thing), False)
            for place in range(4):
                other = with_place(right, (place,), thing)
                self.assertIs(self.clash(WORKS["drop"], other), other == right and thing is not True)


class InStores(unittest.TestCase):
    def test_what_writers_are_led_over_and_refused_with(self):
        store = store_of()
        put(store, ("apple", 3), ("fig", 5))
        put(store, ("pear", 12))
        ann, bob = begun(store), begun(store, "bob")
        ann.drop((("many", "below", 4),))
        bob.gather(tuple(data_files(store)))
        put(store, ("kiwi", 7))
        commit(store, lambda zed: zed.key("many", 5))
        place, head, kiwi = store.shelf(), store.head("fruit"), data_files(store)[-1]
        key = [name for name in place.names() if name[0] == "k"][0]
        self.assertIs(led_holds(place, head, ann.work(), ("led", ((3, ((kiwi, 0),)), (4, ((key, 0),))))), True)
        self.assertIs(led_holds(place, head, bob.work(), ("led", ((3, ()), (4, ())))), True)
        commit(store, lambda zed: zed.drop((("name", "is", "apple"),)))
        head, file = store.head("fruit"), data_files(store)[0]
        for writer in (ann, bob):
            self.assertIs(led_holds(place, head, writer.work(), ("led", ((3, ()), (4, ()), (5, ())))), False)
            self.assertIs(clash_holds(place, head, writer.work(), ("clash", 5, "marked", file)), True)
            self.assertIs(clash_holds(place, head, writer.work(), ("clash", 4, "marked", file)), False)
            self.assertIs(clash_holds(place, head, writer.work(), ("clash", 5, "marked", kiwi)), False)


if __name__ == "__main__":
    unittest.main()
