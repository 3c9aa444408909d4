"""Promise 39: faults of a head's file in a place."""

import unittest

from openings import shelf_of
from right_contents import at_place, paths_of, with_place
from right_files import FILES, ROWS, with_changed, with_rows_right
from stillfiles.contents import is_content
from stillfiles.faults import faults_of
from stillfiles.listing import list_row
from stillfiles.shelves import Folder
from things import ANYTHING


class Faults(unittest.TestCase):
    def faults(self, files, head="h14"):
        """What is told of a Folder, in whatever order its files stand."""
        told = faults_of(Folder(tuple(files.items())), head)
        self.assertEqual(faults_of(Folder(tuple(reversed(files.items()))), head), told)
        self.assertEqual(told, tuple(sorted(set(told))))
        return told

    def check(self, files, *faults):
        self.assertEqual(self.faults(files), tuple(sorted(faults)))


class Right(Faults):
    def test_no_faults(self):
        for content in FILES.values():
            self.assertIs(is_content(content), True, content)
        self.check(FILES)
        self.assertEqual(faults_of(place=Folder(tuple(FILES.items())), file="h14"), ())
        self.assertEqual({name: (name, *content) for name, content in FILES.items()},
                         {name: (name, *content) for name, content in with_rows_right(FILES).items()})

    def test_in_a_shelf(self):
        self.assertEqual(faults_of(shelf_of(FILES), "h14"), ())
        less = {**FILES, "d1": ("data", 0, 0, (), ROWS[:2])}
        self.assertEqual(faults_of(shelf_of(less), "h14"), (("entry", "l2", 0), ("entry", "l8", 1)))

    def test_files_that_arent_reached_arent_looked_at(self):
        self.check({**FILES, "d90": None, "l91": [], "s92": ("lists", ((),)), "h93": {}, "k94": True})

    def test_an_empty_table(self):
        head = (*FILES["h14"][:5], FILES["h14"][5][:1], (), ())
        self.check({"s4": ("lists", ()), "h14": head})


class Heads(Faults):
    def test_it_lacks(self):
        for thing in (*ANYTHING, "h15", "d99"):
            self.assertEqual(faults_of(Folder(tuple(FILES.items())), thing), (("lacks", thing),))
        self.assertEqual(faults_of(Folder(), "h14"), (("lacks", "h14"),))

    def test_of_another_letter(self):
        for name in FILES:
            if name != "h14":
                self.assertEqual(self.faults(FILES, name), (("form", name),))
        self.assertEqual(self.faults({**FILES, "l14": FILES["h14"]}, "l14"), (("form", "l14"),))

    def test_no_head(self):
        for thing in (*ANYTHING, FILES["l2"], FILES["h14"][:-1], list(FILES["h14"]),
                      with_place(FILES["h14"], (5, 1, 5), "l2"),
                      with_place(FILES["h14"], (5, 1, 6), 2), with_place(FILES["h14"], (5, 1, 0), True)):
            self.check({**FILES, "h14": thing}, ("form", "h14"))


class Lacks(Faults):
    def without(self, *names):
        return {name: content for name, content in FILES.items() if name not in names}

    def test_each_file(self):
        for name in ("d1", "k7", "d6", "d10", "m5", "s4", "s13", "l12"):
            self.check(self.without(name), ("lacks", name))
        # The marks' data file has no entry any more where its list can't be looked at, in two commits.
        self.check(self.without("l2"), ("lacks", "l2"), ("entry", "l8", 1))
        self.check(self.without("s3"), ("lacks", "s3"))
        self.check(self.without("s3", "s9", "s13", "s4", "d1"), ("lacks", "s13"), ("lacks", "s3"), ("lacks", "s4"),
                   ("lacks", "s9"))

    def test_what_hangs_on_it_isnt_looked_at(self):
        files = {**FILES, "d6": 7, "m5": 7, "k7": 7}
        self.check({name: content for name, content in files.items() if name not in ("l8", "l12")}, ("lacks", "l8"),
                   ("lacks", "l12"))
        for name, path, new in (("l8", (1, 0, 3), 9), ("l8", (1, 0, 6), ("r", "r")), ("l8", (1, 0, 7), ()),
                                ("l8", (1, 1, 4), 9), ("l8", (1, 2, 4), 9)):
            files = with_rows_right(with_changed(name, path, new))
            self.check(files, ("entry", name, path[1]))
            file = FILES["l8"][1][path[1]][1]
            self.check({other: content for other, content in files.items() if other != file}, ("lacks", file))
            self.check({**files, file: ()}, ("form", file))

    def test_all_else_of_an_entry_is_looked_at(self):
        for path, new in (((1, 0, 2), 3), ((1, 0, 4), 2), ((1, 0, 5), 3), ((1, 0, 4), 0), ((1, 1, 2), 3),
                          ((1, 1, 3), "d99"), ((1, 1, 3), "d10"),
                          ((1, 2, 2), 3), ((1, 2, 3), 4)):
            files = with_rows_right(with_changed("l8", path, new))
            file = FILES["l8"][1][path[1]][1]
            self.assertIn(("entry", "l8", path[1]), self.faults(files), path)
            without = {other: content for other, content in files.items() if other != file}
            self.check(without, ("lacks", file), ("entry", "l8", path[1]))

    def test_no_content_by_form_of_its_letter(self):
        for name in ("d1", "k7", "d6", "d10", "m5", "s4", "s13", "l12"):
            for thing in (None, True, [], {}, (), list(FILES[name]), FILES[name][:-1], FILES["h14"], (FILES[name],),
                          *[content for other, content in FILES.items() if other[0] != name[0]]):
                self.check({**FILES, name: thing}, ("form", name))
        self.check({**FILES, "l2": FILES["d1"]}, ("form", "l2"), ("entry", "l8", 1))
        for thing in ANYTHING:
            self.check({**FILES, "d6": thing, "m5": thing}, ("form", "d6"), ("form", "m5"))

    def test_each_once(self):
        head = with_place(FILES["h14"], (5, 0, 5), "s9")
        self.check({**self.without("d6", "k7"), "h14": head}, ("lacks", "d6"), ("lacks", "k7"), ("entry", "l2", 0),
                   ("entry", "l8", 0),
                   ("entry", "l8", 1), ("entry", "l8", 2))


class Rows(Faults):
    def test_each_thing_otherwise(self):
        for name in ("s3", "s9", "s13"):
            for path in paths_of(FILES[name]):
                if len(path) < 3 or path[2] == 0:
                    continue
                there = at_place(FILES[name], path)
                for new in ((), there + there if isinstance(there, tuple) else None, 0, 7, "a", None):
                    files = with_changed(name, path, new)
                    if new != there and is_content(files[name]):
                        self.check(files, ("row", name, path[1]))

    def test_of_no_form(self):
        self.check(with_changed("s13", (1, 0, 1), True), ("form", "s13"))

    def test_a_row_of_another_list(self):
        row = list_row("l2", FILES["l2"][1])
        self.check(with_changed("s13", (1, 0), ("l2", *FILES["s13"][1][0][1:])), ("row", "s13", 0))
        self.check(with_changed("s13", (1, 0), row))
        self.check(with_changed("s9", (1,), FILES["s9"][1][::-1]))

    def test_its_list_lacks(self):
        files = with_changed("s13", (1, 0, 1), 9)
        del files["l12"]
        self.check(files, ("lacks", "l12"))

    def test_a_span_that_an_entry_has_twice(self):
        files = with_changed("l2", (1, 0, 7), ((1, "fig", "kiwi", 1), (2, 3, 5, 1), (2, 1, 4, 2)))
        files = with_rows_right(files)
        self.assertEqual(files["s3"][1][0][3], ((1, "fig", "kiwi", 1, 0), (2, 1, 5, 3, 0)))
        self.check(files, ("entry", "l2", 0))


class Twice(Faults):
    def test_in_one_list_and_in_two(self):
        entry = FILES["l2"][1][0]
        files = with_rows_right({**FILES, "l2": ("list", (entry, entry))})
        self.check(files, ("twice", "d1"))
        more = {**FILES, "l20": ("list", (entry,)), "s3": ("lists", (*FILES["s3"][1], list_row("l20", (entry,))))}
        self.check(more, ("twice", "d1"))
        entry = ("data", "d1", 0, *entry[3:])
        other = {**FILES, "l20": ("list", (entry,)), "s3": ("lists", (*FILES["s3"][1], list_row("l20", (entry,))))}
        self.check(other, ("twice", "d1"))

    def test_two_rows_that_name_one_list(self):
        self.check(with_changed("s3", (1,), FILES["s3"][1] * 2), ("twice", "d1"))
        self.check(with_changed("s13", (1,), FILES["s13"][1] * 3), ("twice", "d10"), ("twice", "d11"))
        marks = {**FILES, "l20": ("list", (FILES["l8"][1][1:])), "s9": ("lists",
                                                                        (*FILES["s9"][1], *[("l20", 0, 2, ())] * 2))}
        self.check(marks)

    def test_in_two_commits_it_isnt_twice(self):
        self.check(with_place(FILES, (), FILES))

    def test_also_of_a_file_that_lacks(self):
        files = with_changed("s3", (1,), FILES["s3"][1] * 2)
        del files["d1"]
        self.check(files, ("twice", "d1"), ("lacks", "d1"))


class Entries(Faults):
    def otherwise(self, name, k, place, new, *faults, also=()):
        """One thing of an entry otherwise: it isn't as its file is, or as it has to be in its commit."""
        files = with_rows_right(with_changed(name, (1, k, place), new))
        self.assertIs(is_content(files[name]), True)
        self.check(files, ("entry", name, k), *also)

    def test_data(self):
        for many in (1, 2, 4, 99):
            self.otherwise("l2", 0, 3, many)
        for place in (4, 5):
            for number in (1, 2, 3, 99):
                self.otherwise("l2", 0, place, number)
        for part in ((None,), (0,), ("",)):
            self.otherwise("l2", 0, 6, part)
        for part in ((-3,), (-29,), (None,), (), (-30, None), ("a",)):
            self.otherwise("l12", 0, 6, part)
        for order in (2, 3, 99):
            self.otherwise("l2", 0, 2, order)
        self.check(with_changed("l2", (1, 0, 2), 0))
        spans = FILES["l2"][1][0][7]
        for new in ((), spans[:1], spans[::-1], (*spans, (3, None, None, 3)), (*spans, spans[0])):
            self.otherwise("l2", 0, 7, new)
        for column in range(2):
            for place, new in ((0, 3), (1, None), (1, "a"), (1, 2), (2, None), (2, "zz"), (2, 6), (3, 0), (3, 2)):
                self.otherwise("l2", 0, 7, with_place(spans, (column, place), new))

    def test_contents_of_data(self):
        for name, entry in (("d1", ("entry", "l2", 0)), ("d10", ("entry", "l12", 0)), ("d6", ("entry", "l8", 0))):
            _, shape, rule, part, rows = FILES[name]
            others = [("data", shape + 1, rule, part, rows), ("data", shape, rule + 1, part, rows),
                      ("data", 99, 99, part, rows),
                      ("data", shape, rule, (*part, None), rows), ("data", shape, rule, part, rows * 2),
                      ("data", shape, rule, part, (*rows[:-1], (*rows[-1][:-1], 1000))),
                      ("data", shape, rule, part, (*rows[:-1], (True,) * 2))]
            for other in others[:-1]:
                self.check({**FILES, name: other}, entry)
            self.check({**FILES, name: others[-1]}, ("form", name))

    def test_rows_of_the_shape_and_of_the_part(self):
        """Entry and file agree, spans too, but rows aren't of the shape, or of the part by the rule."""
        for shape, rule, part, row in ((0, 0, (), ("fig", 100)), (0, 0, (), ("fig", 3, "q")), (0, 0, (), ("fig",)),
                                       (1, 0, (), ("fig", 100, "qq")),
                                       (1, 0, (), ("fig", 3)), (0, 0, (), (3, "fig")), (1, 1, (2,), ("fig", 30, "q")),
                                       (1, 1, (None,), ("fig", 30, "q")),
                                       (1, 1, (3,), ("fig", None, "q")), (1, 2, ("q", "g"), ("fig", 30, "q")),
                                       (1, 2, ("q",), ("fig", 30, "q")),
                                       (1, 1, (), ("fig", 30, "q"))):
            spans = tuple((at, worth, worth, 0) if worth is not None else (at, None, None, 1) for at,
                          worth in enumerate(row, start=1))
            files = {**FILES, "d1": ("data", shape, rule, part, (row,)), "m5": ("marks", "d1", (0,)),
                     "l2": ("list", (("data", "d1", 1, 1, shape, rule, part, spans),)),
                     "l8": with_place(FILES["l8"], (1, 1, 4), 1)}
            self.assertIs(is_content(files["d1"]) and is_content(files["l2"]), True)
            self.check(with_rows_right(files), ("entry", "l2", 0))
        for shape, rule, part, row in ((0, 0, (), ("fig", 99)), (1, 1, (3,), ("fig", 30, "q")),
                                       (1, 1, (None,), ("fig", None, None)),
                                       (1, 2, ("q", "f"), ("fig", 30, "q"))):
            spans = tuple((at, worth, worth, 0) if worth is not None else (at, None, None, 1) for at,
                          worth in enumerate(row, start=1))
            files = {**FILES, "d1": ("data", shape, rule, part, (row,)), "m5": ("marks", "d1", (0,)),
                     "l2": ("list", (("data", "d1", 1, 1, shape, rule, part, spans),)),
                     "l8": with_place(FILES["l8"], (1, 1, 4), 1)}
            self.check(with_rows_right(files))

    def test_one_row_of_several(self):
        rows = (("fig", 30, "q"), ("kiwi", 41, "q"))
        spans = ((1, "fig", "kiwi", 0), (2, 30, 41, 0), (3, "q", "q", 0))
        for part in ((3,), (4,)):
            files = {**FILES, "d10": ("data", 1, 1, part, rows)}
            files["l12"] = ("list", (("data", "d10", 2, 2, 1, 1, part, spans), *FILES["l12"][1][1:]))
            self.check(with_rows_right(files), ("entry", "l12", 0))

    def test_the_rule_in_the_shape(self):
        """Rules whose columns the shape hasn't, or whose ways don't fit; also where the file lacks."""
        for rule, is_right in (((2, ("rest", 5)), True), ((2, ("first", 1)), False), ((3, ("same",)), False),
                               ((1, ("same",)), True),
                               ((1, ("first", 2)), True), ((1, ("range", 2)), False), ((1, ("rest", 2)), False),
                               ((9, ("same",)), False)):
            part = {"rest": 3, "same": "fig", "first": "fi", "range": 1}[rule[1][0]]
            files = {**FILES, "h14": with_place(FILES["h14"], (3, 0), (rule,)),
                     "d1": ("data", 0, 0, (part,), (("fig", 3),)),
                     "m5": ("marks", "d1", (0,)), "l8": with_place(FILES["l8"], (1, 1, 4), 1),
                     "l2": ("list", (("data", "d1", 1, 1, 0, 0, (part,), ((1, "fig", "fig", 0), (2, 3, 3, 0))),))}
            files = with_rows_right(files)
            faults = () if is_right else (("entry", "l2", 0),)
            self.check(files, *faults)
            del files["d1"]
            self.check(files, ("lacks", "d1"), *faults)

    def test_marks(self):
        self.otherwise("l8", 1, 4, 1)
        self.otherwise("l8", 1, 4, 3)
        self.otherwise("l8", 1, 2, 3)
        self.check(with_changed("l8", (1, 1, 2), 0))
        self.otherwise("l8", 1, 3, "d6")
        self.otherwise("l8", 1, 3, "d10")
        for marks in (("marks", "d1", (0,)), ("marks", "d1", (0, 1, 2)), ("marks", "d6", (0, 1)),
                      ("marks", "d99", (0, 1)), ("marks", "d1", (0, 3)),
                      ("marks", "d1", (7, 99))):
            self.check({**FILES, "m5": marks}, ("entry", "l8", 1))
        for places in ((0, 1), (1, 2)):
            self.check({**FILES, "m5": ("marks", "d1", places)})

    def test_marks_for_a_data_file_that_has_no_entry(self):
        """It is a fault, and that file isn't looked at, whether it is there or not."""
        for data in ("d10", "d99", "d80"):
            files = {**FILES, "m5": ("marks", data, (0, 2)), "l8": with_place(FILES["l8"], (1, 1, 3), data),
                     "d80": ("data", 7)}
            self.check(files, ("entry", "l8", 1))
        # In one of the commits it has an entry, in another one not.
        files = {**FILES, "l20": ("list", (FILES["l8"][1][1],)), "s13": ("lists",
                                                                         (*FILES["s13"][1], ("l20", 0, 1, ())))}
        self.check(files, ("entry", "l20", 0))
        files["s9"] = ("lists", (*FILES["s9"][1], ("l20", 0, 1, ())))
        self.check(files, ("entry", "l20", 0))
        files["s13"] = FILES["s13"]
        self.check(files)

    def test_places_of_a_data_file_that_lacks_or_is_none(self):
        files = {**FILES, "m5": ("marks", "d1", (8, 9))}
        self.check(files, ("entry", "l8", 1))
        self.check({**files, "d1": None}, ("form", "d1"))
        del files["d1"]
        self.check(files, ("lacks", "d1"))

    def test_places_are_held_against_the_content_not_the_entry(self):
        files = with_rows_right(with_changed("l2", (1, 0, 3), 9, {**FILES, "m5": ("marks", "d1", (0, 5))}))
        self.check(files, ("entry", "l2", 0), ("entry", "l8", 1))
        files = with_rows_right(with_changed("l2", (1, 0, 3), 1))
        self.check(files, ("entry", "l2", 0))

    def test_keys(self):
        self.otherwise("l8", 2, 2, 3)
        self.check(with_changed("l8", (1, 2, 2), 0))
        for number in (1, 3, 4, 99):
            self.otherwise("l8", 2, 3, number)
        for worth in (None, 4, "a", ""):
            self.otherwise("l8", 2, 4, worth)
        for key in (("key", 1, 5), ("key", 99, 5), ("key", 2, None), ("key", 2, "a")):
            self.check({**FILES, "k7": key}, ("entry", "l8", 2), ("entry", "l12", 2))
        # A number of some shape will do, whether the worth fits it or not; of none it won't.
        for number, is_right in ((3, True), (1, True), (4, False)):
            files = {**FILES, "k7": ("key", number, 5), "l8": with_place(FILES["l8"], (1, 2, 3), number),
                     "l12": with_place(FILES["l12"], (1, 2, 3), number)}
            self.check(files, *(() if is_right else (("entry", "l8", 2), ("entry", "l12", 2))))

    def test_a_key_of_a_column_that_no_rule_has(self):
        shapes = (*FILES["h14"][2], ((4, "more", "sign", None),))
        files = {**FILES, "h14": (*FILES["h14"][:2], shapes, FILES["h14"][3], 6, *FILES["h14"][5:])}
        for number, is_right in ((4, True), (5, False)):
            files["k7"] = ("key", number, 5)
            for name in ("l8", "l12"):
                files[name] = with_place(FILES[name], (1, 2, 3), number)
            self.check(files, *(() if is_right else (("entry", "l8", 2), ("entry", "l12", 2))))

    def test_orders_by_each_commit(self):
        head = with_place(FILES["h14"], (5, 1, 5), "s9")
        self.check({**FILES, "h14": head}, ("entry", "l8", 0), ("entry", "l8", 1), ("entry", "l8", 2))
        self.check({**FILES, "h14": with_place(head, (5, 0, 5), "s13")},
                   *[("entry", name, k) for name in ("l8", "l12") for k in range(3)])


class Several(Faults):
    def test_they_rise(self):
        files = with_changed("s9", (1, 1, 2), 7, with_changed("s3", (1,), FILES["s3"][1] * 2))
        files = {**files, "d10": None, "k7": ("key", 2, 6), "m5": []}
        del files["d11"]
        self.assertEqual(self.faults(files), (("entry", "l12", 2), ("entry", "l8", 2), ("form", "d10"), ("form", "m5"),
                                              ("lacks", "d11"),
                                              ("row", "s9", 1), ("twice", "d1")))

    def test_nothing_is_changed_and_all_is_told_again(self):
        files = tuple({**FILES, "d1": [1, {}]}.items())
        place = Folder(files)
        self.assertEqual(faults_of(place, "h14"), faults_of(place, "h14"))
        self.assertEqual(files, tuple({**FILES, "d1": [1, {}]}.items()))


if __name__ == "__main__":
    unittest.main()
