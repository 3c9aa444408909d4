"""Promise 40: a Desk."""

import unittest

from refusing import Refusing
from stillfiles.desk import Desk
from stillfiles.errors import Clash, Crash, Full, Last, Lost, NoChange, NoColumn, NoCommit, NoCond, NoFile, NoFit, NoLine
from stillfiles.errors import NoName, NoRow, NoRule, NoShape, NoTable, NoTag, NotNow, NoWriter, Taken, TooLate, Used
from stillfiles.reading import entries_of
from stillfiles.stores import Store
from things import ANYTHING

FRUIT = "make fruit : name word .none : many small 0"


class Talking(Refusing):
    def setUp(self):
        self.desk = Desk()

    def says(self, *pairs):
        """Each row is answered so; `ok` where there is no answer."""
        for pair in pairs:
            row, answer = (pair, "ok") if isinstance(pair, str) else pair
            many = len(self.desk)
            told = self.desk.say(row)
            self.assertEqual((row, told, told.__class__), (row, answer, str))
            self.assertEqual(len(self.desk), many + 1)

    def refuses(self, error, row, **fields):
        many = len(self.desk)
        self.refused(error, lambda: self.desk.say(row), **fields)
        self.assertEqual(len(self.desk), many)

    def none(self, *rows):
        for row in rows:
            self.refuses(NoLine, row)

    def begun(self):
        """A table, and ann who has begun."""
        self.says(FRUIT, "writer ann", "begin ann fruit")

    def held(self, *rows):
        """What ann has done when she said each of these in its turn, as works."""
        works = []
        for row in rows:
            self.desk = Desk()
            self.begun()
            self.says(row)
            works.append(self.desk._writers["ann"].work())
        return works

    def put(self, groups, title="ann"):
        self.says("begin " + title + " fruit", "put " + title + groups)
        self.desk.say("commit " + title)


class Tables(Talking):
    def test_make(self):
        self.says("make fruit : name word .none : many small -3 : mark sign - : all whole 1000000000000")
        shape = ((1, "name", "word", "none"), (2, "many", "small", -3), (3, "mark", "sign", None),
                 (4, "all", "whole", 10 ** 12))
        self.assertEqual(self.desk.store().head("fruit")[2:4], ((shape,), ((),)))
        self.says("make nut : a sign .a")
        self.assertEqual(self.desk.store().tables(), ("fruit", "nut"))

    def test_refused_as_there(self):
        self.says(FRUIT)
        self.refuses(Taken, FRUIT, name="fruit")
        self.refuses(NoName, "make Fruit : a sign .a", name="Fruit")
        self.refuses(NoName, "make Fruit", name="Fruit")
        self.refuses(NoName, "make a\nb : a sign .a", name="a\nb")
        self.refuses(Taken, "make fruit", name="fruit")
        for groups in ("", " : A sign .a", " : a sign .ab", " : a small 100", " : a sign 1", " : a sign .a : a sign .b",
                       "".join([" : " + name + " sign -" for name in "abcdefghi"])):
            self.refuses(NoShape, "make nut" + groups)
        self.says("make nut" + "".join([" : " + name + " sign -" for name in "abcdefgh"]))

    def test_no_such_row(self):
        self.none("make", "make fruit a small 1", "make fruit :", "make fruit : a small", "make fruit : a small 1 2",
                  "make fruit : a tiny 1",
                  "make fruit : a small 1 :", "make fruit : : a small 1", "make fruit : a small 01",
                  "make fruit : a small -0",
                  "make fruit : a small +1", "make fruit : a small .A", "make fruit : a word .abcdefghi",
                  "make fruit : a word a",
                  "make fruit : a whole 1000000000001", "make fruit : a whole -1000000000001", "make fruit : a Small 1",
                  "make : : a small 1",
                  "make fruit nut : a small 1", "make fruit : a small 1\n", "make fruit : a small\n1",
                  "make fruit: a small 1",
                  "make fruit :a small 1", "Make fruit : a small 1", "make : a small 1")

    def test_a_store_of_its_own_by_default(self):
        self.assertIs(self.desk.store().__class__, Store)
        self.assertIs(self.desk.store(), self.desk.store())
        self.begun()
        self.says("put ann", "wait 9", ("ready ann", "h3"), "wait 1")
        self.refuses(TooLate, "swap ann", base=0)


class Writing(Talking):
    def test_writers(self):
        self.refuses(NoName, "writer Ann", name="Ann")
        self.refuses(NoName, "writer -", name="-")
        self.says("writer ann", ("stage ann", "idle"), "writer bob")
        self.refuses(Taken, "writer ann", name="ann")
        self.says("close ann", ("stage ann", "closed"), "writer ann", ("stage ann", "idle"))
        self.none("writer", "writer ann bob", "writer :", "writer ann :", "writer ann : a", "stage", "stage ann bob",
                  "stage ann : a")

    def test_no_writer(self):
        self.says(FRUIT)
        self.desk.store().writer("ann")
        self.refuses(Taken, "writer ann", name="ann")
        for title in ("ann", "Bob", "-", "a\nb", "7"):
            for row in ("begin W fruit", "begin W nut", "put W", "put W : 1", "drop W", "change W name .a",
                        "key W name .a", "shape W", "rule W",
                        "gather W", "gather W x", "back W 0", "tag W a 0", "untag W a", "let W 1 0", "leave W",
                        "close W", "ready W", "swap W",
                        "commit W", "found W", "stage W"):
                self.refuses(NoWriter, row.replace("W", title), name=title)

    def test_the_last_one_of_a_title(self):
        self.begun()
        self.says("close ann", "writer ann", ("stage ann", "idle"), "begin ann fruit", "trouble 1 crash")
        self.refuses(Crash, "key ann name .a", step=4)
        self.says(("stage ann", "dead"))
        self.refuses(NotNow, "close ann", state="dead")
        self.says("writer ann", ("stage ann", "idle"))

    def test_begin_leave_close(self):
        self.says(FRUIT, "writer ann")
        self.refuses(NoTable, "begin ann nut", name="nut")
        self.refuses(NoTable, "begin ann fruit\n", name="fruit\n")
        self.refuses(NotNow, "leave ann", state="idle")
        self.says("begin ann fruit", ("stage ann", "begun"), "begin ann fruit", "leave ann", ("stage ann", "idle"))
        self.says("close ann", "close ann")
        self.refuses(NotNow, "begin ann fruit", state="closed")
        self.none("begin ann", "begin", "begin ann fruit nut", "begin ann :", "begin : fruit", "leave", "leave ann bob",
                  "close", "leave ann : a")

    def test_put(self):
        works = self.held("put ann", "put ann : .fig 3", "put ann : .fig 3 : - - : . -99")
        self.assertEqual([work[5] for work in works], [
            (), (("data", "d3", 1, 0, 0, (), ((1, "fig", "fig", 0), (2, 3, 3, 0))),),
            (("data", "d3", 3, 0, 0, (), ((1, "", "fig", 1), (2, -99, 3, 1))),)])
        self.begun_anew()
        self.refuses(NoRow, "put ann : .fig 3 : .fig", place=1)
        self.refuses(NoRow, "put ann : .fig 100", place=0)
        self.refuses(NoRow, "put ann : .fig 3 : 3 .fig : 3", place=1)
        self.none("put", "put ann :", "put ann : .fig 3 :", "put ann : : .fig 3", "put ann .fig 3", "put ann : fig 3",
                  "put ann : .fig 03", "put ann : .fig\n 3",
                  "put ann : .fig 3 : .Fig 3", "put ann : .fig 1000000000001", "put ann : .fig ..", "put ann : --",
                  "put ann :.fig 3")

    def begun_anew(self):
        self.desk = Desk()
        self.begun()

    def test_drop(self):
        works = self.held("drop ann", "drop ann : name is .fig", "drop ann : many below 3 : name from - : many is -")
        self.assertEqual([work[4] for work in works], [(), ((1, "is", "fig"),),
                                                       ((2, "below", 3), (1, "from", None), (2, "is", None))])
        self.begun_anew()
        self.refuses(NoColumn, "drop ann : name is .fig : kind is 3", name="kind")
        self.refuses(NoCond, "drop ann : Name is .fig")
        self.refuses(NoCond, "drop ann" + " : name is .fig" * 5)
        self.none("drop", "drop ann :", "drop ann : name is", "drop ann : name .fig", "drop ann : name over 3",
                  "drop ann : name Is 3", "drop ann name is 3",
                  "drop ann : name is 3 4", "drop ann : name is 3 : many", "drop ann : name is fig", "drop ann : is 3",
                  "drop ann : name below 1.5")

    def test_change(self):
        works = self.held("change ann many 5", "change ann name - : many is 3 : name below .a")
        self.assertEqual([(work[4], work[9]) for work in works], [((), 2), (((2, "is", 3), (1, "below", "a")), 1)])
        self.begun_anew()
        self.refuses(NoColumn, "change ann kind 5", name="kind")
        self.refuses(NoColumn, "change ann kind 5 : mark is 1", name="mark")
        self.refuses(NoFit, "change ann many .a", name="many")
        self.refuses(NoCond, "change ann Many .a : Many is 1")
        self.none("change ann", "change ann many", "change ann : many is 3", "change ann many 5 6",
                  "change ann many five", "change ann many 5 :",
                  "change ann many 5 : name", "change : many 5", "change ann many 5 : name over 3")

    def test_key(self):
        works = self.held("key ann many 5", "key ann name .", "key ann name -")
        self.assertEqual([work[8][0][1:] for work in works], [(2, 5), (1, ""), (1, None)])
        self.begun_anew()
        self.refuses(NoColumn, "key ann Kind 5", name="Kind")
        self.refuses(NoFit, "key ann many .a", name="many")
        self.none("key ann", "key ann many", "key ann many 5 6", "key ann many 5 : a is 1", "key ann many 5 :",
                  "key ann many a", "key ann : 5")

    def test_shape(self):
        works = self.held("shape ann", "shape ann : add mark sign .x",
                          "shape ann : out many : name name title : add many word -",
                          "shape ann : widen many whole")
        self.assertEqual([work[9] for work in works], [
            (), (("add", "mark", "sign", "x"),), (("out", "many"), ("name", "name", "title"),
                                                  ("add", "many", "word", None)), (("widen", "many", "whole"),)])
        self.begun_anew()
        self.refuses(NoColumn, "shape ann : out kind", name="kind")
        self.refuses(Taken, "shape ann : name name many", name="many")
        self.refuses(Last, "shape ann : out name : out many")
        self.refuses(NoFit, "shape ann : widen name sign", name="name")
        self.refuses(NoChange, "shape ann : out name : add a sign .ab", place=1)
        self.refuses(NoChange, "shape ann : name name Title", place=0)
        self.refuses(NoChange, "shape ann" + " : out name" * 5, place=-1)
        self.none("shape", "shape ann :", "shape ann : out", "shape ann : out a b", "shape ann : add a sign",
                  "shape ann : add a sign .x 1", "shape ann : add a long 1",
                  "shape ann : add a sign x", "shape ann : name a", "shape ann : name a b c", "shape ann : widen a",
                  "shape ann : widen a wide",
                  "shape ann : drop a", "shape ann : a out", "shape ann out a", "shape ann : add",
                  "shape ann : widen a whole 1", "shape ann : ok a whole")

    def test_shapes_that_are_full_and_columns_that_are_used(self):
        self.says("make nut" + "".join([" : " + name + " sign -" for name in "abcdefgh"]), "writer ann",
                  "begin ann nut")
        self.refuses(Full, "shape ann : out a : add a sign - : add i sign -")
        self.says("rule ann : b same 0", ("commit ann", "1"), "begin ann nut")
        self.refuses(Used, "shape ann : name b z : out z", name="z")

    def test_rule(self):
        works = self.held("rule ann", "rule ann : name same 0", "rule ann : many range 1000 : name first 8",
                          "rule ann : many rest 100")
        self.assertEqual([work[9] for work in works], [(), ((1, ("same",)),), ((2, ("range", 1000)), (1, ("first", 8))),
                                                       ((2, ("rest", 100)),)])
        self.begun_anew()
        for way in ("range 1001", "rest 101", "first 9", "rest 99999999999999999999"):
            self.refuses(NoRule, "rule ann : many " + way)
        self.refuses(NoRule, "rule ann : name same 0 : name first 1")
        self.refuses(NoRule, "rule ann : Name same 0")
        self.refuses(NoRule, "rule ann : name same 0 : many same 0 : a same 0 : b same 0")
        self.refuses(NoColumn, "rule ann : kind same 0", name="kind")
        self.refuses(NoFit, "rule ann : name range 3", name="name")
        self.none("rule", "rule ann :", "rule ann : name same", "rule ann : name same 1", "rule ann : many range 0",
                  "rule ann : many rest 0", "rule ann : name first 0",
                  "rule ann : name first 01", "rule ann : name first -1", "rule ann : name first .a",
                  "rule ann : name last 1", "rule ann name same 0",
                  "rule ann : name same 00", "rule ann : name first 1 1", "rule ann : first 1")

    def test_gather(self):
        self.says(FRUIT, "writer ann")
        for row in (" : .fig 3", " : .kiwi 5", " : .date 7"):
            self.put(row)
        head = self.desk.store().head("fruit")
        one, two, three = [entry[1] for entry in entries_of(self.desk.store().shelf(), head, 3)]
        self.says("begin ann fruit")
        self.refuses(NoFile, "gather ann " + one + " nut", file="nut")
        self.refuses(NoFile, "gather ann " + one + " " + one, file=one)
        self.refuses(NoFile, "gather ann l3", file="l3")
        self.says("gather ann " + three + " " + one, ("commit ann", "4"), ("rows fruit", ".date 7 / .fig 3 / .kiwi 5"))
        self.says("begin ann fruit", "gather ann", ("commit ann", "5"))
        self.assertEqual([entry[1] for entry in entries_of(self.desk.store().shelf(), self.desk.store().head("fruit"),
                                                           5)][0], two)
        self.none("gather", "gather :", "gather ann : d1", "gather ann d1 :", "gather ann d1 : d2", "gather ann  d1",
                  "gather : d1")

    def test_back_tags_letting_go(self):
        self.says(FRUIT, "writer ann")
        for row in (" : .fig 3", " : .kiwi 5"):
            self.put(row)
        self.says("begin ann fruit", "back ann 1", ("commit ann", "3"), ("rows fruit", ".fig 3"))
        self.says("begin ann fruit", "tag ann old 2", ("commit ann", "3"))
        self.assertEqual(self.desk.store().head("fruit")[6], (("old", 2),))
        self.says("begin ann fruit")
        self.refuses(NoCommit, "back ann 4", number=4)
        self.refuses(NoCommit, "tag ann new 4", number=4)
        self.refuses(Taken, "tag ann old 3", name="old")
        self.refuses(NoName, "tag ann Old 9", name="Old")
        self.refuses(NoTag, "untag ann new", name="new")
        self.says("let ann 1 0", ("commit ann", "3"))
        self.assertEqual([row[0] for row in self.desk.store().head("fruit")[5]], [2, 3])
        self.says("begin ann fruit", "untag ann old", ("commit ann", "3"), "begin ann fruit", "let ann 2 99999",
                  ("commit ann", "3"))
        self.none("back ann", "back ann 01", "back ann -1", "back ann one", "back ann 1 2", "back 1", "tag ann old",
                  "tag ann old 01", "tag ann 1", "tag ann old 1 2",
                  "untag ann", "untag ann a b", "let ann", "let ann 1", "let ann 0 1", "let ann 1 00", "let ann 01 1",
                  "let ann 1 -1", "let ann 1 1 1",
                  "let ann 1 1 : a", "back ann 1 : a", "tag ann : 1", "untag ann :", "let 1 1")


class Committing(Talking):
    def test_ready_and_swap(self):
        self.begun()
        self.refuses(NotNow, "ready ann", state="begun")
        self.says("put ann : .fig 3", ("stage ann", "held"), ("ready ann", "h6"), ("stage ann", "ready"),
                  ("swap ann", "1"), ("stage ann", "idle"))
        self.assertEqual(self.desk.store().shelf().pointed("fruit"), "h6")
        self.refuses(NotNow, "swap ann", state="idle")
        self.none("ready", "ready ann bob", "swap", "swap ann 1", "commit", "commit ann 4", "found", "found ann ann",
                  "ready ann : a", "swap : a", "commit ann :")

    def test_a_swap_that_is_late(self):
        self.begun()
        self.says("writer bob", "begin bob fruit", "put ann : .fig 3", "put bob : .kiwi 5", ("ready ann", "h7"),
                  ("ready bob", "h10"), ("swap bob", "1"),
                  ("swap ann", "none"), ("stage ann", "held"), ("commit ann", "2"), ("rows fruit", ".fig 3 / .kiwi 5"))

    def test_refusals_come_out_as_they_are(self):
        self.begun()
        self.says("writer bob", "begin bob fruit", "key bob many 3", "drop ann", ("commit bob", "1"))
        key = self.desk.store().shelf().names()[2]
        self.refuses(Clash, "commit ann", number=1, word="key", file=key)
        self.refuses(Clash, "ready ann", number=1, word="key", file=key)
        self.says(("stage ann", "held"), "leave ann", "begin ann fruit", "wait 10")
        self.refuses(TooLate, "put ann : 1", base=1)

    def test_found(self):
        self.begun()
        self.refuses(NotNow, "found ann", state="begun")
        self.says("put ann : .fig 3", ("ready ann", "h6"), "trouble 1 lost")
        self.refuses(Lost, "swap ann", step=8)
        self.says(("stage ann", "unsure"), ("found ann", "yes"), ("stage ann", "idle"), ("rows fruit", ".fig 3"))
        self.says("begin ann fruit", "drop ann", "trouble 2 void")
        self.refuses(Lost, "commit ann", step=11)
        self.says(("stage ann", "held"), ("ready ann", "h11"), "trouble 1 void")
        self.refuses(Lost, "swap ann", step=15)
        self.says(("found ann", "no"), ("stage ann", "held"), ("commit ann", "2"), ("rows fruit", "none"))

    def test_troubles_and_moments(self):
        self.begun()
        self.says("wait 0", "wait 7")
        self.assertEqual(self.desk.store().moment(), 7)
        self.says("trouble 3 crash", "trouble 1 void")
        self.refuses(Lost, "key ann many 3", step=4)
        self.says(("stage ann", "begun"), "trouble 1 crash")
        self.refuses(Crash, "key ann many 3", step=5)
        self.says(("stage ann", "dead"))
        self.none("wait", "wait 01", "wait -1", "wait 1 1", "wait one", "wait :", "wait 1 : 1", "wait 1\n",
                  "trouble 0 crash", "trouble 1", "trouble 1 Crash",
                  "trouble crash 1", "trouble 01 crash", "trouble 1 held", "trouble 1 crash 1", "trouble -1 crash",
                  "trouble : crash")


class Reading(Talking):
    def test_rows_and_at(self):
        self.says(FRUIT, ("rows fruit", "none"), ("at fruit 0", "none"), "writer ann")
        self.put(" : .fig 3 : . -5 : - - : .fig -")
        self.put(" : .kiwi 12")
        self.says(("rows fruit", "- - / . -5 / .fig - / .fig 3 / .kiwi 12"), ("at fruit 0", "none"),
                  ("at fruit 1", "- - / . -5 / .fig - / .fig 3"),
                  ("at fruit 2", "- - / . -5 / .fig - / .fig 3 / .kiwi 12"),
                  ("rows fruit : many from 3", ".fig 3 / .kiwi 12"),
                  ("rows fruit : name is .fig : many is -", ".fig -"), ("rows fruit : name is .nut", "none"),
                  ("rows fruit : many below 0", ". -5"))
        for row in ("rows", "at"):
            self.refuses(NoTable, row + (" Nut" if row == "rows" else " Nut 7"), name="Nut")
        self.refuses(NoTable, "rows Nut : Name is 1", name="Nut")
        self.refuses(NoCond, "rows fruit : Name is 1")
        self.refuses(NoColumn, "rows fruit : many is 1 : kind is 1", name="kind")
        self.refuses(NoCommit, "at fruit 3", number=3)
        self.refuses(NoCommit, "at fruit " + "9" * 3000, number=int("9" * 3000))
        self.none("rows", "rows fruit nut", "rows fruit :", "rows fruit : many", "rows fruit : many from",
                  "rows fruit : many over 3", "rows : fruit", "at fruit",
                  "at fruit 01", "at fruit -1", "at fruit 1 2", "at fruit 1 : many is 3", "at fruit 1 :", "at 1 fruit",
                  "at", "at : 1", "rows fruit 1")

    def test_neither_leaves_a_reader_open(self):
        self.says(FRUIT, "writer ann")
        self.put(" : .fig 3")
        self.says(("rows fruit", ".fig 3"), ("at fruit 0", "none"), ("at fruit 1", ".fig 3"), "begin ann fruit",
                  "drop ann", ("commit ann", "2"))
        self.says("begin ann fruit", "gather ann d3", ("commit ann", "3"), "begin ann fruit", "let ann 1 0",
                  ("commit ann", "3"))
        heads = self.desk.say("over").split(" ")
        self.assertIn("d3", heads)

    def test_by_each_commits_shape(self):
        self.says(FRUIT, "writer ann")
        self.put(" : .fig 3")
        self.says("begin ann fruit", "shape ann : add mark sign .x : out name", ("commit ann", "2"),
                  ("rows fruit", "3 .x"), ("at fruit 1", ".fig 3"))

    def test_sweep_and_over(self):
        self.says(("over", "none"), ("sweep", "none"), FRUIT, ("over", "none"), "writer ann")
        self.put(" : .fig 3")
        self.put(" : .fig 4")
        self.says(("over", "h2 h6"), ("sweep", "none"), "wait 9", ("sweep", "none"), "wait 1", ("over", "h2 h6"),
                  "trouble 2 void")
        self.refuses(Lost, "sweep", step=15)
        self.says(("over", "h6"), ("sweep", "h6"), ("over", "none"))
        self.none("sweep all", "over 1", "sweep :", "over : a", "sweep ", " over")


class Lines(Talking):
    def test_blanks_and_line_ends(self):
        self.begun()
        for row in ("put ann : .fig 3", "rows fruit", "sweep", "wait 1", "at fruit 0", "drop ann : many is 3"):
            self.none(" " + row, row + " ", "  ".join(row.partition(" ")[::2]), row + " :",
                      row.replace(" ", "\n", 1) if " " in row else row + "\n")
        self.none("", " ", "  ", "\n", ":", ": a", " : ", "\t", "sweep\n", "\nsweep", "sweep\tall", "at fruit 0\n",
                  "trouble 1 crash\n")
        self.refuses(NoTable, "rows fruit\n", name="fruit\n")
        self.refuses(NoTable, "rows \nfruit", name="\nfruit")
        self.refuses(NoWriter, "stage ann\n", name="ann\n")

    def test_no_other_rows(self):
        self.begun()
        self.none("hello", "write ann", "read fruit", "renew ann", "make_ fruit", "RULE ann", "busy ann", "work ann",
                  "reader fruit", "erase d1", "tables", "head fruit",
                  "done fruit ann", "named", "let_go ann 1 1", "reshape ann", "rerule ann", "left", "ok", "none", "yes")

    def test_of_anything(self):
        self.begun()
        for thing in ANYTHING:
            self.none(thing)
        for thing in (("sweep",), ["sweep"], {"sweep": 1}, ("wait", 1), 5, True):
            self.none(thing)
        self.none("put ann" + " : " * 1000, "x " * 2000, ": " * 2000, "wait " + "0" * 3000, "wait " + "9" * 3990 + "a")

    def test_no_line_is_ahead_of_all_else(self):
        for row in ("put bob : fig", "begin bob", "change bob many", "rows nut : a", "at nut x", "make Fruit : a",
                    "tag bob T", "let bob 0 1", "rule bob : a same 1"):
            self.none(row)
        self.begun()
        self.says("trouble 1 crash")
        self.none("put ann : fig 3", "key ann many", "sweep now")
        self.assertEqual(self.desk.store().shelf().steps(), 3)

    def test_what_is_counted(self):
        self.assertEqual(len(self.desk), 0)
        self.none("", "hello")
        self.refuses(NoWriter, "stage ann", name="ann")
        self.says(FRUIT, "writer ann", ("stage ann", "idle"), ("sweep", "none"), ("rows fruit", "none"))
        self.refuses(Taken, "writer ann", name="ann")
        self.assertEqual(len(self.desk), 5)

    def test_by_its_name(self):
        self.assertEqual(self.desk.say(row="wait 3"), "ok")

    def test_two_desks_apart(self):
        other = Desk()
        self.begun()
        self.assertEqual((len(other), other.store().tables()), (0, ()))
        self.assertIsNot(other.store(), self.desk.store())
        with self.assertRaises(NoWriter):
            other.say("stage ann")
        other.say("make nut : a sign -")
        other.say("wait 5")
        self.assertEqual((self.desk.store().tables(), self.desk.store().moment(), len(other), len(self.desk)),
                         (("fruit",), 0, 2, 3))


if __name__ == "__main__":
    unittest.main()
