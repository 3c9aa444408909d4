"""Promises 15 and 16: a Shelf, its steps and troubles, Folders."""

import unittest

from stillfiles.errors import Crash, Lost, NoFile, NoTable, Trouble
from stillfiles.shelves import Folder, Shelf
from things import ANYTHING

DATA = ("data", 0, 0, (), ((1,),))
MARKS = ("marks", "d1", (0,))
KEY = ("key", 1, None)
LIST = ("list", (("marks", "m1", 0, "d1", 1),))
LISTS = ("lists", ())
HEAD = ("head", "a", (((1, "a", "word", None),),), ((),), 2, ((0, "make", None, 0, 0, "s1", 0, 0),), (), ())
KINDS = (("data", "d", DATA), ("marks", "m", MARKS), ("key", "k", KEY),
         ("list", "l", LIST), ("lists", "s", LISTS), ("head", "h", HEAD))


def shelf_of(*kinds):
    shelf = Shelf()
    for kind in kinds:
        shelf.write(kind, [content for name, _, content in KINDS if name == kind][0])
    return shelf


class Files(unittest.TestCase):
    def test_names_are_the_kinds_letter_and_how_many_were_ever_written(self):
        shelf = Shelf()
        for count, (kind, letter, content) in enumerate(KINDS, start=1):
            self.assertEqual(shelf.write(kind, content), letter + str(count))
            self.assertEqual(shelf.read(letter + str(count)), content)
        shelf.erase("h6")
        shelf.erase("d1")
        self.assertEqual(shelf.write(kind="data", content=DATA), "d7")
        self.assertEqual(shelf.names(), ("m2", "k3", "l4", "s5", "d7"))
        self.assertEqual(len(shelf), 5)

    def test_read_has_written_erase(self):
        shelf = Shelf()
        self.assertEqual((len(shelf), shelf.names()), (0, ()))
        shelf.wait(3)
        shelf.write("key", KEY)
        shelf.wait(0)
        shelf.wait(2)
        shelf.write("data", DATA)
        self.assertEqual((shelf.written("k1"), shelf.written("d2"), shelf.moment()), (3, 5, 5))
        self.assertIs(shelf.has("k1"), True)
        self.assertIs(shelf.has("k2"), False)
        self.assertIsNone(shelf.erase(name="k1"))
        self.assertIs(shelf.has(name="k1"), False)
        self.assertEqual((shelf.names(), len(shelf)), (("d2",), 1))
        self.assertEqual((shelf.read(name="d2"), shelf.written(name="d2")), (DATA, 5))

    def test_what_is_gone_or_never_was_is_refused(self):
        shelf = shelf_of("data", "key")
        shelf.erase("d1")
        for name in ("d1", "d2", "k1", "k3", "k02", "", *ANYTHING):
            self.assertIs(shelf.has(name), False)
            for call in (shelf.read, shelf.written, shelf.erase):
                with self.assertRaises(NoFile) as caught:
                    call(name)
                self.assertIs(caught.exception.file, name)
        self.assertEqual((shelf.names(), shelf.opened()), (("k2",), ()))

    def test_names_rise_by_numbers(self):
        shelf = shelf_of(*["data", "key"] * 6)
        self.assertEqual(shelf.names(), ("d1", "k2", "d3", "k4", "d5", "k6", "d7", "k8", "d9", "k10", "d11", "k12"))

    def test_names_rise_by_what_a_function_tells(self):
        shelf = shelf_of(*["data", "key"] * 6)
        self.assertEqual(shelf.names(by=lambda name: -int(name[1:]))[:3], ("k12", "d11", "k10"))
        letters = shelf.names(by=lambda name: name[0])
        self.assertEqual(letters, ("d1", "d3", "d5", "d7", "d9", "d11", "k2", "k4", "k6", "k8", "k10", "k12"))
        self.assertEqual(shelf.names(by=lambda name: int(name[1:]) % 2),
                         ("k2", "k4", "k6", "k8", "k10", "k12", "d1", "d3", "d5", "d7", "d9", "d11"))
        self.assertEqual(shelf.names(by=lambda name: 0), shelf.names())
        self.assertEqual(shelf.names(by=lambda name: name), tuple(sorted(shelf.names())))
        self.assertEqual(shelf.names(by=lambda name: -shelf.written(name)), shelf.names())

    def test_opened_are_the_names_read(self):
        shelf = shelf_of("data", "key")
        self.assertEqual(shelf.opened(), ())
        for name in ("k2", "d1", "d1", "d9", "k2"):
            if shelf.has(name):
                shelf.read(name)
            else:
                self.assertRaises(NoFile, shelf.read, name)
        self.assertEqual(shelf.opened(), ("k2", "d1", "d1", "k2"))
        shelf.written("d1")
        shelf.erase("d1")
        self.assertEqual(shelf.opened(), ("k2", "d1", "d1", "k2"))


class Pointed(unittest.TestCase):
    def test_swap(self):
        shelf = Shelf()
        self.assertIs(shelf.swap("b", "h1", "h2"), False)
        self.assertEqual(shelf.tables(), ())
        self.assertIs(shelf.swap("b", None, "h1"), True)
        self.assertEqual(shelf.pointed("b"), "h1")
        self.assertIs(shelf.swap("b", None, "h3"), False)
        self.assertIs(shelf.swap("b", "h2", "h3"), False)
        self.assertEqual(shelf.pointed(table="b"), "h1")
        self.assertIs(shelf.swap(table="b", ahead="h1", new="h4"), True)
        self.assertEqual(shelf.pointed("b"), "h4")
        self.assertIs(shelf.swap("a", None, "h5"), True)
        self.assertEqual((shelf.tables(), shelf.pointed("a")), (("a", "b"), "h5"))
        self.assertEqual(len(shelf), 0)

    def test_no_table(self):
        shelf = Shelf()
        shelf.swap("a", None, "h1")
        for table in ("b", "h1", *[thing for thing in ANYTHING if thing != "a"]):
            with self.assertRaises(NoTable) as caught:
                shelf.pointed(table)
            self.assertIs(caught.exception.name, table)

    def test_moments(self):
        shelf = Shelf()
        self.assertEqual(shelf.moment(), 0)
        self.assertIsNone(shelf.wait(many=4))
        shelf.wait(0)
        self.assertEqual(shelf.moment(), 4)

    def test_two_share_nothing(self):
        one, other = Shelf(), Shelf()
        one.write("data", DATA)
        one.swap("a", None, "h1")
        one.wait(1)
        one.trouble(1, "crash")
        told = (len(other), other.names(), other.tables(), other.moment(), other.steps(), other.opened())
        self.assertEqual(told, (0, (), (), 0, 0, ()))
        self.assertEqual(other.write("data", DATA), "d1")


class Troubles(unittest.TestCase):
    def acts(self, shelf):
        """Each kind of step, those that are refused too, as it is done on a Shelf with the file d1, the table a."""
        return (
            lambda: shelf.write("key", KEY), lambda: shelf.erase("d1"), lambda: shelf.erase([]),
            lambda: shelf.swap("a", "h1", "h2"), lambda: shelf.swap("a", "h7", "h8"), lambda: shelf.swap("b", None, "h9"),
        )

    def started(self):
        shelf = shelf_of("data")
        shelf.swap("a", None, "h1")
        return shelf

    def state(self, shelf):
        return (shelf.names(), len(shelf), [(table, shelf.pointed(table)) for table in shelf.tables()])

    def test_each_is_a_step(self):
        shelf = self.started()
        self.assertEqual(shelf.steps(), 2)
        shelf.write("key", KEY)
        shelf.swap("a", "h9", "h2")
        shelf.swap("a", "h1", "h2")
        shelf.erase("d1")
        self.assertRaises(NoFile, shelf.erase, "d1")
        self.assertEqual(shelf.steps(), 7)
        shelf.read("k2")
        shelf.has("k2")
        shelf.names()
        shelf.wait(2)
        shelf.trouble(3, "void")
        self.assertRaises(NoFile, shelf.read, "d1")
        self.assertRaises(NoTable, shelf.pointed, "b")
        self.assertEqual(shelf.steps(), 7)

    def test_crash_and_void_at_each_step(self):
        for word, error in (("crash", Crash), ("void", Lost)):
            for kind in range(6):
                shelf = self.started()
                before = self.state(shelf)
                self.assertIsNone(shelf.trouble(1, word))
                with self.assertRaises(error) as caught:
                    self.acts(shelf)[kind]()
                self.assertEqual(caught.exception.step, 3)
                self.assertIsInstance(caught.exception, Trouble)
                self.assertEqual((self.state(shelf), shelf.steps()), (before, 3))

    def test_lost_at_each_step_is_done_or_refused(self):
        for kind in range(6):
            done, lost = self.started(), self.started()
            try:
                self.acts(done)[kind]()
            except NoFile:
                self.assertEqual(kind, 2)
            lost.trouble(1, "lost")
            with self.assertRaises(Lost) as caught:
                self.acts(lost)[kind]()
            self.assertEqual(caught.exception.step, 3)
            self.assertEqual((self.state(lost), lost.steps()), (self.state(done), 3))

    def test_what_is_not_written_has_no_number(self):
        for word, name in (("crash", "d1"), ("void", "d1"), ("lost", "d2")):
            shelf = Shelf()
            shelf.trouble(1, word)
            self.assertRaises(Trouble, shelf.write, "key", KEY)
            self.assertEqual(shelf.has("k1"), word == "lost")
            self.assertEqual(shelf.write("data", DATA), name)

    def test_at_a_later_step_and_then_gone(self):
        for word, error in (("crash", Crash), ("void", Lost), ("lost", Lost)):
            shelf = Shelf()
            shelf.write("data", DATA)
            shelf.trouble(step=3, word=word)
            shelf.write("key", KEY)
            self.assertRaises(NoFile, shelf.erase, "m9")
            with self.assertRaises(error) as caught:
                shelf.swap("a", None, "h1")
            self.assertEqual(caught.exception.step, 4)
            self.assertEqual(shelf.tables(), ("a",) if word == "lost" else ())
            self.assertIs(shelf.swap("b", None, "h1"), True)
            self.assertEqual(shelf.steps(), 5)

    def test_one_waits_at_most(self):
        shelf = Shelf()
        shelf.trouble(1, "crash")
        shelf.trouble(2, "void")
        self.assertEqual(shelf.write("data", DATA), "d1")
        self.assertRaises(Lost, shelf.write, "data", DATA)
        self.assertEqual(shelf.write("data", DATA), "d2")
        shelf.trouble(5, "crash")
        shelf.trouble(1, "lost")
        self.assertRaises(Lost, shelf.write, "data", DATA)
        for count in range(4, 9):
            self.assertEqual(shelf.write("data", DATA), "d" + str(count))


class Folders(unittest.TestCase):
    def test_by_hand(self):
        files = (("d10", DATA), ("k2", KEY), ("d2", DATA), ("s2", LISTS), ("l1", 7), ("h30", None))
        for folder in (Folder(files), Folder(files=files)):
            self.assertEqual(len(folder), 6)
            for name, content in files:
                self.assertIs(folder.has(name), True)
                self.assertEqual(folder.read(name), content)
            self.assertEqual(folder.names(), ("l1", "d2", "k2", "s2", "d10", "h30"))
            self.assertEqual(folder.names(by=lambda name: name[0]), ("d2", "d10", "h30", "k2", "l1", "s2"))
            self.assertEqual(folder.names(by=lambda name: 1), ("l1", "d2", "k2", "s2", "d10", "h30"))

    def test_empty(self):
        for folder in (Folder(), Folder(())):
            self.assertEqual((len(folder), folder.names()), (0, ()))
            self.assertIs(folder.has("d1"), False)

    def test_contents_of_anything(self):
        for thing in ANYTHING:
            folder = Folder((("d1", thing), ("h1", None)))
            self.assertEqual(folder.read("d1"), thing)
            self.assertIs(folder.has("d1"), True)
            self.assertEqual(folder.names(), ("d1", "h1"))

    def test_no_file(self):
        folder = Folder((("d1", DATA), ("k2", KEY)))
        for name in ("d2", "k1", "d01", *ANYTHING):
            self.assertIs(folder.has(name=name), False)
            with self.assertRaises(NoFile) as caught:
                folder.read(name=name)
            self.assertIs(caught.exception.file, name)


if __name__ == "__main__":
    unittest.main()
