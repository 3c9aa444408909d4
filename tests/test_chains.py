"""Promise 37: chains of named files in a Store."""

import itertools
import unittest

from stillfiles.paperchecks import chain_holds
from stillfiles.papers import chain_of
from stored import COLUMNS, commit, data_files, put, store_of
from things import ANYTHING


def links(store, file):
    """The files that a file has as its own, by hand."""
    content = store.shelf().read(file)
    places = {"head": (5, 5), "lists": (1, 0), "list": (1, 1)}
    if content[0] not in places:
        return []
    rows, place = places[content[0]]
    return [row[place] for row in content[rows]]


class Chains(unittest.TestCase):
    def setUp(self):
        """Two tables; of one two Readers are open at commits that are let go, just the later one's with marks."""
        self.store = store = store_of(let=4)
        put(store, ("fig", 3), ("kiwi", 5))
        put(store, ("date", 2))
        commit(store, lambda zed: zed.drop((("name", "is", "fig"),)))
        commit(store, lambda zed: zed.key("many", 2))
        self.reader, self.later = store.reader("fruit", at=2), store.reader("fruit", at=3)
        self.elder = dict.fromkeys(store.named())
        commit(store, lambda zed: zed.gather(tuple(data_files(store))))
        commit(store, lambda zed: zed.let_go(keep=1, age=0))
        put(store, ("plum", 9))
        store.make("nut", COLUMNS)

    def check(self, readers):
        """Each chain that there is, by hand, holds, and of each file that is named one is told."""
        store = self.store
        starts = [*[store.shelf().pointed(table) for table in ("fruit", "nut")],
                  *[reader.commit_row()[5] for reader in readers]]
        chains = [(file,) for file in starts]
        for chain in chains:
            chains.extend((*chain, file) for file in links(store, chain[-1]))
        self.assertEqual(sorted({chain[-1] for chain in chains}), sorted(store.named()))
        for name in store.named():
            told = chain_of(store, name)
            self.assertIn(told, chains)
            self.assertEqual(told[-1], name)
        for chain in chains:
            for name in store.shelf().names():
                self.assertIs(chain_holds(store, name, chain), name == chain[-1])
        for name in store.left_over():
            self.assertIsNone(chain_of(store, name))
        return chains

    def test_of_each_named_file(self):
        chains = self.check((self.reader, self.later))
        self.assertEqual({len(chain) for chain in chains}, {1, 2, 3, 4})
        self.assertEqual({chain[-1][0] for chain in chains}, set("hsldmk"))
        self.assertEqual({chain[0][0] for chain in chains}, set("hs"))
        name = [name for name in self.store.named() if name[0] == "m"][0]
        self.assertIs(chain_holds(store=self.store, name=name, thing=chain_of(store=self.store, name=name)), True)

    def test_a_commit_that_just_an_open_reader_names(self):
        marks = [name for name in self.store.named() if name[0] == "m"][0]
        data = self.store.shelf().read(marks)[1]
        lists = [reader.commit_row()[5] for reader in (self.reader, self.later)]
        told = chain_of(self.store, marks), chain_of(self.store, data)
        self.assertEqual([len(chain) for chain in told], [3, 3])
        self.assertEqual(told[0][0], lists[1])
        self.assertIn(told[1][0], lists)
        self.later.close()
        self.assertIsNone(chain_of(self.store, marks))
        self.assertIs(chain_holds(self.store, marks, told[0]), False)
        self.assertEqual(chain_of(self.store, data)[0], lists[0])
        self.check((self.reader,))
        self.store.wait(4)
        for name, chain in zip((marks, data), told):
            self.assertIsNone(chain_of(self.store, name))
            self.assertIs(chain_holds(self.store, name, chain), False)
        self.assertIs(chain_holds(self.store, lists[0], (lists[0],)), False)
        self.check(())

    def test_renewed_it_is_open(self):
        chain = chain_of(self.store, self.reader.commit_row()[5])
        self.store.wait(3)
        self.reader.renew()
        self.store.wait(3)
        self.assertIs(chain_holds(self.store, chain[-1], chain), True)
        self.store.wait(1)
        self.assertIs(chain_holds(self.store, chain[-1], chain), False)
        self.assertIsNone(chain_of(self.store, chain[-1]))

    def test_otherwise(self):
        store = self.store
        for name in store.named():
            right = chain_of(store, name)
            for thing in (right[:-1], right[1:], (*right, name), (*right, right[0]), (right[0], *right), list(right),
                          (right,), right[0], ()):
                self.assertIs(chain_holds(store, name, thing), False, thing)
            for order in itertools.permutations(right):
                self.assertIs(chain_holds(store, name, order), order == right)
            for at in range(len(right)):
                for other in (True, None, 1, "h1", "d99", [right[at]], (right[at],), {}, *store.left_over()):
                    self.assertIs(chain_holds(store, name, (*right[:at], other, *right[at + 1:])), False)

    def test_a_link_is_an_entrys_own_file(self):
        for marks in [name for name in self.store.named() if name[0] == "m"]:
            chain = chain_of(self.store, marks)
            data = self.store.shelf().read(marks)[1]
            self.assertIs(chain_holds(self.store, data, (*chain[:-1], data)), data in links(self.store, chain[-2]))
            self.assertIs(chain_holds(self.store, data, (*chain, data)), False)

    def test_a_head_that_no_table_points_at(self):
        store = self.store
        heads = [name for name in store.left_over() if name[0] == "h"]
        self.assertGreater(len(heads), 3)
        for head in heads:
            self.assertIs(chain_holds(store, head, (head,)), False)
            for file in links(store, head):
                if store.shelf().has(file):
                    self.assertIs(chain_holds(store, file, (head, file)), False)
        head = store.shelf().pointed("fruit")
        put(store, ("fig", 1))
        self.assertIs(chain_holds(store, head, (head,)), False)
        self.assertIsNone(chain_of(store, head))

    def test_of_anything(self):
        name = [name for name in self.store.named() if name[0] == "d"][0]
        right = chain_of(self.store, name)
        for thing in ANYTHING:
            self.assertIsNone(chain_of(self.store, thing))
            self.assertIs(chain_holds(self.store, name, thing), False)
            self.assertIs(chain_holds(self.store, thing, right), False)
            self.assertIs(chain_holds(self.store, thing, (thing,)), False)
            for at in range(len(right)):
                self.assertIs(chain_holds(self.store, name, (*right[:at], thing, *right[at + 1:])), False)
        head = self.store.shelf().pointed("nut")
        self.assertIs(chain_holds(self.store, head, (head,) * 60_000), False)
        self.assertIs(chain_holds(self.store, head, [head]), False)

    def test_what_isnt_there_has_no_links(self):
        name = [name for name in self.store.named() if name[0] == "d"][-1]
        chain = chain_of(self.store, name)
        self.store.shelf().erase(chain[-2])
        self.assertIs(chain_holds(self.store, name, chain), False)
        self.assertIs(chain_holds(self.store, chain[0], chain[:1]), True)

    def test_what_is_swept_has_none(self):
        self.reader.close()
        self.later.close()
        self.store.wait(20)
        chains = {name: chain_of(self.store, name) for name in self.elder}
        swept = self.store.sweep()
        self.assertTrue(swept)
        for name, chain in chains.items():
            self.assertEqual(chain is None, name in swept)
        self.check(())


if __name__ == "__main__":
    unittest.main()
