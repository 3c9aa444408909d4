"""Promise 2: what is of anything is answered, told the same again, and leaves what is handed in as it was."""

import copy
import unittest

from right_contents import DATA, HEAD, LIST, RIGHT, paths_of, at_place, with_place
from hands import Hand
from openings import shelf_of
from meetings import WORKS
from stillfiles.changes import changes_of
from stillfiles.conditions import bound
from stillfiles.contents import is_content, is_file
from stillfiles.contenttexts import read_content, show_content
from stillfiles.desk import Desk
from stillfiles.doings import did
from stillfiles.errors import Missing, StillError
from stillfiles.faults import faults_of
from stillfiles.findings import finding_holds
from stillfiles.gathering import small_ones
from stillfiles.historychecks import history_holds
from stillfiles.meetchecks import clash_holds, is_work, led_holds
from stillfiles.paperchecks import chain_holds, none_holds, row_holds
from stillfiles.papers import chain_of, none_paper, row_paper
from stillfiles.parts import bound_rule
from stillfiles.plain import Plain
from stillfiles.planning import plan_of
from stillfiles.reading import away, commit_of, entries_of, rows_of
from stillfiles.shapes import is_row, is_shape, reshaped
from stillfiles.shelves import Folder
from stored import begun, put, store_of
from stillfiles.worths import fits, is_name, is_worth
from things import ANYTHING

SHAPE = ((1, "a", "small", 1), (2, "b", "word", ""))


def small_table():
    hand = Hand((SHAPE,))
    for number in range(3):
        hand.commit(hand.list(hand.data(number, ((number, "a"),))))
    return hand.folder(), hand.head(), shelf_of(hand.files)


PLACE, TABLE, SHELF = small_table()
ASKED = (
    is_name, is_worth, is_shape, is_file, is_content,
    lambda thing: fits("small", thing), lambda thing: fits("word", thing), lambda thing: is_row(SHAPE, thing),
    lambda thing: is_file(thing, letter="d"), lambda thing: reshaped(SHAPE, 3, thing),
    lambda thing: bound(SHAPE, thing), lambda thing: bound_rule(SHAPE, thing), read_content,
    SHELF.has, SHELF.read, SHELF.written, SHELF.erase, SHELF.pointed, PLACE.has, PLACE.read,
    lambda thing: Folder((("d1", thing),)).read("d1"),
    lambda thing: commit_of(TABLE, thing), lambda thing: entries_of(PLACE, TABLE, thing),
    lambda thing: did(PLACE, TABLE, thing), lambda thing: away(PLACE, TABLE, thing, "d1"),
    lambda thing: rows_of(PLACE, TABLE, thing), lambda thing: rows_of(PLACE, TABLE, 1, where=thing),
    lambda thing: plan_of(PLACE, TABLE, thing, ()), lambda thing: plan_of(PLACE, TABLE, 1, thing),
    is_work, finding_holds, lambda thing: small_ones(PLACE, TABLE, thing), lambda thing: faults_of(PLACE, thing),
    lambda thing: led_holds(PLACE, TABLE, WORKS["drop"], thing), lambda thing: clash_holds(PLACE, TABLE, WORKS["drop"],
                                                                                           thing),
    lambda thing: changes_of(PLACE, TABLE, thing, 1), lambda thing: changes_of(PLACE, TABLE, 0, thing),
    lambda thing: row_paper(PLACE, TABLE, thing, (1, "a")), lambda thing: row_paper(PLACE, TABLE, 1, thing),
    lambda thing: none_paper(PLACE, TABLE, thing, ()), lambda thing: none_paper(PLACE, TABLE, 1, thing),
    lambda thing: row_holds(PLACE, TABLE, 1, (1, "a"), thing), lambda thing: none_holds(PLACE, TABLE, 1, (), thing),
    lambda thing: history_holds((("a", "small", 1),), ((0, 1, ("read", ()), ()),), thing),
    lambda thing: finding_holds(("row", thing, "h1", 1, (1, "a"), thing)),
    lambda thing: finding_holds(("can", thing, thing, thing)),
    lambda thing: faults_of(Folder((("h1", thing),)), "h1"), lambda thing: faults_of(Folder((("h1", TABLE),
                                                                                             ("s4", thing))), "h1"),
)


def filled():
    store = store_of()
    put(store, ("fig", 3))
    return store


# What would be changed by what it takes is asked of a new Store, Writer or Plain each time.
ASKED_ANEW = (
    lambda thing: filled().make(thing, (("a", "word", ""),)), lambda thing: filled().make("nut", thing),
    lambda thing: filled().make("nut", (("a", "word", ""),), rule=thing), lambda thing: filled().writer(thing).stage(),
    lambda thing: filled().head(thing), lambda thing: filled().done(thing, "zed"),
    lambda thing: filled().reader(thing).rows(), lambda thing: filled().reader("fruit", at=thing).rows(),
    lambda thing: filled().reader("fruit", tag=thing).rows(), lambda thing: filled().reader("fruit").rows(where=thing),
    lambda thing: filled().reader("fruit").plan(thing), lambda thing: filled().writer("ann").begin(thing),
    lambda thing: begun(filled()).put(thing), lambda thing: begun(filled()).drop(thing),
    lambda thing: begun(filled()).change(thing, "many", 1), lambda thing: begun(filled()).change((), thing, 1),
    lambda thing: begun(filled()).change((), "many", thing), lambda thing: begun(filled()).key(thing, 1),
    lambda thing: begun(filled()).key("many", thing), lambda thing: begun(filled()).reshape(thing),
    lambda thing: begun(filled()).rerule(thing), lambda thing: begun(filled()).gather(thing),
    lambda thing: begun(filled()).gather((thing,)), lambda thing: begun(filled()).back(thing),
    lambda thing: begun(filled()).tag(thing, 1), lambda thing: begun(filled()).tag("new", thing),
    lambda thing: begun(filled()).untag(thing),
    lambda thing: chain_of(filled(), thing), lambda thing: chain_holds(filled(), "s1", thing),
    lambda thing: Desk().say(thing),
    lambda thing: Plain(thing).shape(), lambda thing: Plain((("a", "small", 1),), rule=thing).rule(),
    lambda thing: Plain((("a", "small", 1),)).do(thing), lambda thing: Plain((("a", "small", 1),)).do(("put", thing)),
    lambda thing: Plain((("a", "small", 1),)).do(("gather",), base=thing),
    lambda thing: Plain((("a", "small", 1),)).rows(at=thing), lambda thing: Plain((("a", "small", 1),
                                                                                   )).rows(where=thing),
)


# Each thing with the text that shows it as it is at first.
SHOWN = [(thing, repr(thing)) for thing in (*ANYTHING, *RIGHT)]


def told(function, thing):
    """What a function tells of a thing, or the refusal as a text."""
    try:
        return repr(function(thing))
    except (StillError, Missing) as error:
        return repr((error.__class__.__name__, vars(error)))


class OfAnything(unittest.TestCase):
    def test_it_is_answered_the_same_and_left_as_it_was(self):
        for function in ASKED:
            for thing, before in SHOWN:
                first = told(function, thing)
                self.assertEqual(told(function, thing), first)
                self.assertEqual(repr(thing), before)

    def test_stores_writers_readers_and_plains(self):
        for function in ASKED_ANEW:
            for thing, before in SHOWN[:len(ANYTHING)]:
                first = told(function, thing)
                self.assertEqual(told(function, thing), first)
                self.assertEqual(repr(thing), before)

    def test_contents_with_lists_and_dicts_in_them_are_left_as_they_were(self):
        for content in (DATA, LIST, HEAD):
            for path in paths_of(content):
                thing = with_place(content, path, [at_place(content, path), {}])
                before = copy.deepcopy(thing)
                self.assertIs(is_content(thing), False)
                self.assertEqual(thing, before)


class Truths(unittest.TestCase):
    def test_a_truth_is_taken_for_a_whole_number_nowhere(self):
        for truth in (True, False):
            self.assertIs(is_worth(truth), False)
            for kind in ("small", "whole", "sign", "word"):
                self.assertIs(fits(kind, truth), False)
            self.assertIs(is_row(SHAPE, (truth, "")), False)
            self.assertIs(is_shape(((truth, "a", "small", 1),)), False)
            self.assertIs(is_shape(((1, "a", "small", truth),)), False)
            self.assertEqual(told(lambda thing: reshaped(SHAPE, 3, thing), (("add", "c", "small", truth),)),
                             "('NoChange', {'place': 0})")
            for word in ("is", "below", "from"):
                self.assertEqual(told(lambda thing: bound(SHAPE, thing), (("a", word, truth),)), "('NoCond', {})")
            for word in ("range", "rest"):
                self.assertEqual(told(lambda thing: bound_rule(SHAPE, thing), (("a", (word, truth)),)),
                                 "('NoRule', {})")
            for content in RIGHT:
                for path in paths_of(content):
                    self.assertIs(is_content(with_place(content, path, truth)), False)


class Large(unittest.TestCase):
    def test_contents_are_free_of_the_other_bounds(self):
        columns = tuple((10 ** 30 + k, "abcdefgh"[k], "word", None) for k in range(8))
        head = ("head", "a", (columns,) * 1_000, ((),) * 500, 10 ** 31,
                tuple((k, "put", None, k, 5_000, "s7", k % 1_000, k % 500) for k in range(2_000)), (), ())
        self.assertIs(is_content(head), True)
        self.assertEqual(read_content(show_content(head)), head)
        self.assertIs(is_content(with_place(head, (2, 999, 7, 0), 1)), True)
        self.assertIs(is_content(with_place(head, (2, 998, 7, 0), 1)), False)


if __name__ == "__main__":
    unittest.main()
