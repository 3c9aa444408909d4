"""A table made by hand, and works on it, for the tests of what commits meet."""

from hands import Hand
from refusing import Refusing
from stillfiles.meeting import met

NAME, MANY, MARK = (1, "name", "word", "none"), (2, "many", "small", 0), (3, "mark", "sign", "x")
SHAPES = ((NAME, MANY), (NAME, MANY, MARK), (NAME, MARK))
RULES = ((), ((2, ("range", 10)),))


def work_of(word, base=0, reads=None, puts=(), takes=(), marks=(), keys=(), more=None):
    return (word, "ann", 1, base, reads, puts, takes, marks, keys, more)


# A work of each word that needs no file, and no column but many, which is there by all shapes but the last.
WORKS = {
    "put": work_of("put"), "drop": work_of("drop", reads=((2, "from", 90),)),
    "change": work_of("change", reads=((1, "from", "z"),), more=2), "key": work_of("key", keys=(("k9", 2, 5),)),
    "reshape": work_of("reshape", more=()), "rerule": work_of("rerule", more=()), "gather": work_of("gather"),
    "back": work_of("back", more=0), "tag": work_of("tag", more=("a", 0)), "untag": work_of("untag", more="a"),
    "let": work_of("let", more=(1, 0)),
}


class Meeting(Refusing):
    def setUp(self):
        """Commit 0 has d1 (apple 3, fig 5), d2 (pear 12), d3 (plum 40)."""
        hand = self.hand = Hand(SHAPES, RULES)
        self.one = hand.data(0, (("apple", 3), ("fig", 5)))
        self.two = hand.data(0, (("pear", 12),), rule=1, part=(1,))
        self.three = hand.data(0, (("plum", 40),))
        self.start = (hand.list(self.one), hand.list(self.two), hand.list(self.three))
        hand.commit(*self.start)

    def met(self, work):
        return met(self.hand.folder(), self.hand.head(), work)

    def drop(self, *tests, marks=()):
        return work_of("drop", reads=tests, marks=tuple([("m9", entry[1], 1) for entry in marks]))
