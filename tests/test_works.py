"""Promise 24's end, by 28: what is a work by form."""

import unittest

from right_contents import at_place, paths_of, with_place
from stillfiles.meetchecks import is_work
from things import ANYTHING, LARGE

PUT = ("data", "d3", 2, 0, 1, (5, None), ((1, "a", "b", 0), (2, None, None, 2)))
PLAIN_PUT = ("data", "d3", 1, 0, 0, (), ())


def work_of(word, title="ann", number=1, base=0, reads=None, puts=(), takes=(), marks=(), keys=(), more=None):
    return (word, title, number, base, reads, puts, takes, marks, keys, more)


# Of each word some right works, the first one with something in each place that may have it.
RIGHT = {
    "put": (work_of("put", puts=(PUT, PLAIN_PUT, ("data", "d9", 40, 7, 0, ("", "ab", -3), ((9, 0, 0, 5),) * 8))),
            work_of("put")),
    "drop": (work_of("drop", reads=((2, "is", None), (1, "below", "a"), (2, "from", -7), (99, "is", "")),
                     marks=(("m4", "d1", 3), ("m4", "d2", 1))),
             work_of("drop", reads=()), work_of("drop", reads=((1, "is", 10 ** 12),), marks=(("m1", "d1", LARGE),))),
    "change": (work_of("change", reads=((1, "is", "a"),), puts=(PUT,), marks=(("m4", "d1", 3),), more=1),
               work_of("change", reads=(), more=LARGE)),
    "key": (work_of("key", keys=(("k5", 2, "abc"),)), work_of("key", keys=(("k5", 99, None),))),
    "reshape": (work_of("reshape", more=(("add", "a", "small", 3), ("out", "b"), ("name", "c", "d"),
                                         ("widen", "e", "word"))),
                work_of("reshape", more=())),
    "rerule": (work_of("rerule", more=((1, ("same",)), (3, ("first", 8)), (2, ("range", 1000)))),
               work_of("rerule", more=())),
    "gather": (work_of("gather", puts=(PUT,), takes=("d1", "d12")), work_of("gather")),
    "back": (work_of("back", more=3), work_of("back", more=0)),
    "tag": (work_of("tag", more=("old", 3)), work_of("tag", more=("abcdef", 0))),
    "untag": (work_of("untag", more="old"),),
    "let": (work_of("let", more=(1, 0)), work_of("let", more=(LARGE, LARGE))),
}
PLACES = {"title": 1, "number": 2, "base": 3, "reads": 4, "puts": 5, "takes": 6, "marks": 7, "keys": 8, "more": 9}


class Works(unittest.TestCase):
    def wrong(self, word, **things):
        """The first right work of a word, with other things, is none."""
        work = RIGHT[word][0]
        for name, thing in things.items():
            work = with_place(work, (PLACES[name],), thing)
        self.assertIs(is_work(work), False, work)

    def test_right_ones(self):
        self.assertEqual(len(RIGHT), 11)
        for works in RIGHT.values():
            for work in works:
                self.assertIs(is_work(thing=work), True, work)
                for title in ("a", "abcdef"):
                    self.assertIs(is_work(with_place(work, (1,), title)), True)
                for number, base in ((1, 5), (LARGE, LARGE)):
                    self.assertIs(is_work((*work[:2], number, base, *work[4:])), True)

    def test_no_work_of_another_word(self):
        for works in RIGHT.values():
            for word in ("make", "Put", "", None, 1, True, ("put",), ["put"], {}, "read"):
                self.assertIs(is_work((word, *works[0][1:])), False)

    def test_of_another_length(self):
        for works in RIGHT.values():
            for work in works:
                for thing in (work[:-1], work[1:], (*work, None), (*work, ()), list(work), (work,), ()):
                    self.assertIs(is_work(thing), False)

    def test_titles_and_numbers(self):
        for word in RIGHT:
            for title in (None, "", "abcdefg", "Ann", "a b", 1):
                self.wrong(word, title=title)
            for number in (0, -1, None, "1", (1,)):
                self.wrong(word, number=number)
            for base in (-1, None, "0", (0,)):
                self.wrong(word, base=base)

    def test_no_truth_list_or_dict_at_any_place(self):
        for works in RIGHT.values():
            for work in works:
                for path in paths_of(work):
                    there = at_place(work, path)
                    others = [True, False, [], {}, [there], {"a": there}]
                    if isinstance(there, tuple):
                        others.append(list(there))
                    for other in others:
                        self.assertIs(is_work(with_place(work, path, other)), False, (work, path, other))

    def test_nothing_more_and_nothing_less_at_any_depth(self):
        for works in RIGHT.values():
            for work in works:
                for path in paths_of(work):
                    there = at_place(work, path)
                    if isinstance(there, tuple) and path:
                        self.assertIs(is_work(with_place(work, path, (*there, ({},)))), False, (work, path))
                        self.assertIs(is_work(with_place(work, path, ({}, *there))), False, (work, path))

    def test_reads_where_none_are_due(self):
        for word in RIGHT:
            if word in ("drop", "change"):
                self.wrong(word, reads=None)
            else:
                self.wrong(word, reads=())
                self.wrong(word, reads=((1, "is", 1),))

    def test_files_where_none_are_due(self):
        due = {"puts": (("put", "change", "gather"), (PLAIN_PUT,)), "takes": (("gather",), ("d1",)),
               "marks": (("drop", "change"), (("m4", "d1", 3),)), "keys": (("key",), (("k5", 2, "abc"),))}
        for word in RIGHT:
            for name, (words, files) in due.items():
                if word in words:
                    self.assertIs(is_work(with_place(RIGHT[word][0], (PLACES[name],), files)), True)
                else:
                    self.wrong(word, **{name: files})
                for thing in (None, [], {}, 0, ""):
                    self.wrong(word, **{name: thing})

    def test_more_of_another_word(self):
        # What is told of the words of one group may be alike.
        alike = ({"change", "back"}, {"reshape", "rerule"}, {"put", "drop", "key", "gather"})
        for word in RIGHT:
            for other, works in RIGHT.items():
                if not any({word, other} <= group for group in alike) and word != other:
                    for work in works:
                        self.wrong(word, more=work[9])

    def test_more(self):
        for thing in (0, -1, None, "1", (1,)):
            self.wrong("change", more=thing)
        for thing in (-1, None, "1", (1,)):
            self.wrong("back", more=thing)
        out = ("out", "b")
        for thing in (out, (out,) * 5, (("out",),), (("out", "b", "c"),), (("add", "a", "small", 100),),
                      (("widen", "a", "b"),),
                      (("name", "a"),), (("add", "a", "sign", "ab"),), (("drop", "a"),), (("out", "B"),), None):
            self.wrong("reshape", more=thing)
        same = ("same",)
        for thing in (((1, same), (1, ("rest", 1))), tuple([(k, same) for k in range(1, 5)]), (("a", same),),
                      ((0, same),),
                      ((1, ("range", 0)),), ((1, ("range", 1001)),), ((1, ("rest", 101)),), ((1, ("first", 9)),),
                      (1, same), None):
            self.wrong("rerule", more=thing)
        for thing in (("old",), ("old", -1), ("Old", 1), (1, "old"), ("old", 1, 1), ("old", None), "old", None):
            self.wrong("tag", more=thing)
        for thing in ("", "abcdefg", "Old", ("old",), 1, None):
            self.wrong("untag", more=thing)
        for thing in ((0, 0), (1, -1), (1,), (1, 1, 1), ("1", 1), (None, 1), (1, None), 1, None):
            self.wrong("let", more=thing)
        for word in ("put", "drop", "key", "gather"):
            for thing in ((), 0, 1, "", "a"):
                self.wrong(word, more=thing)

    def test_tests_of_reads(self):
        for word in ("drop", "change"):
            for test in ((0, "is", 1), (-1, "is", 1), ("a", "is", 1), (None, "is", 1), (1, "over", 1),
                         (1, "is", 10 ** 12 + 1),
                         (1, "is", "A"), (1, "is", "abcdefghi"), (1, "is"), (1, "is", 1, 1), (1, None, 1), ()):
                self.wrong(word, reads=(test,))
                self.wrong(word, reads=((1, "is", 1), test))
            self.wrong(word, reads=((1, "is", 1),) * 5)
            self.wrong(word, reads=(1, "is", 1))

    def test_puts(self):
        spans = PUT[6]
        for put in (("data", "m3", *PUT[2:]), ("data", "d0", *PUT[2:]), ("data", "d03", *PUT[2:]), ("put", *PUT[1:]),
                    PUT[1:],
                    ("data", "d3", 5, *PUT[2:]), ("data", "d3", 0, *PUT[3:]), (*PUT[:3], -1, *PUT[4:]),
                    (*PUT[:4], -1, *PUT[5:]),
                    (*PUT[:5], (1, 2, 3, 4), spans), (*PUT[:5], ("A",), spans), (*PUT[:6], ((1, 0, 0, 0),) * 9),
                    (*PUT[:6], ((0, 1, 1, 0),)), (*PUT[:6], ((1, 1, 1),)), (*PUT[:6], ((1, 1, 1, 0, 0),)),
                    (*PUT[:6], ((1, 1, 1, -1),)),
                    (*PUT[:5], None, spans), (*PUT, 0), (*PUT[:2], "2", *PUT[3:])):
            for word in ("put", "change", "gather"):
                self.wrong(word, puts=(put,))
                self.wrong(word, puts=(PUT, put))
        self.wrong("put", puts=PUT)
        # Files of puts may be alike, a file of marks, too.
        for word in ("put", "change", "gather"):
            self.assertIs(is_work(with_place(RIGHT[word][0], (5,), (PUT, PUT, PLAIN_PUT))), True)

    def test_takes(self):
        for takes in (("d1", "d1"), ("d1", "d2", "d1"), ("m1",), ("d0",), ("d1", "l2"), ("d",), ("1",), (1,), "d1",
                      (("d1",),)):
            self.wrong("gather", takes=takes)

    def test_marks(self):
        for mark in (("d4", "d1", 3), ("m4", "m1", 3), ("m4", "d1", 0), ("m4", "d1", -1), ("m0", "d1", 1), ("m4", "d1"),
                     ("m4", "d1", 3, 0), ("m4", "d1", (3,)), ("m4", "d1", "3"), ("marks", "m4", 0, "d1", 3)):
            for word in ("drop", "change"):
                self.wrong(word, marks=(mark,))
                self.wrong(word, marks=(("m8", "d9", 1), mark))
        for word in ("drop", "change"):
            self.wrong(word, marks=(("m4", "d1", 3), ("m5", "d1", 3)))
            self.wrong(word, marks=(("m4", "d1", 3), ("m4", "d2", 1), ("m6", "d1", 1)))
            self.wrong(word, marks=("m4", "d1", 3))

    def test_keys(self):
        key = ("k5", 2, "abc")
        for keys in ((), (key, key), (key, ("k6", 2, 1)), key, (("m5", 2, "abc"),), (("k5", 0, "abc"),),
                     (("k5", -1, "abc"),),
                     (("k5", "a", "abc"),), (("k5", 2, "ABC"),), (("k5", 2),), (("k5", 2, "abc", 0),),
                     (("k5", 2, 10 ** 12 + 1),)):
            self.wrong("key", keys=keys)

    def test_of_anything(self):
        for thing in ANYTHING:
            self.assertIs(is_work(thing), False)
            for works in RIGHT.values():
                for place in PLACES.values():
                    there = with_place(works[0], (place,), thing)
                    self.assertIn(is_work(there), (True, False))


if __name__ == "__main__":
    unittest.main()
