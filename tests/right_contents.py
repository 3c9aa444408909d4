"""Right contents and the texts that write them, for the tests of contents and of their texts."""

DATA = ("data", 2, 0, (5, None, "ab"), ((1, "pear", None), (-7, "", None), (10 ** 12, "abcdefgh", -10 ** 12)))
MARKS = ("marks", "d12", (0, 3, 4, 90))
KEY = ("key", 3, -15)
LIST = ("list", (
    ("data", "d1", 0, 3, 0, 1, (), ((1, None, None, 3), (2, -4, 10, 0))),
    ("data", "d20", 7, 1, 2, 0, (-1, "", None), ()),
    ("marks", "m3", 8, "d1", 2),
    ("key", "k4", 9, 2, None),
    ("key", "k5", 0, 99, "abc"),
))
LISTS = ("lists", (
    ("l5", 2, 0, ((1, None, None, 4, 0), (2, "", "zz", 0, 1))),
    ("l6", 0, 3, ()),
    ("l17", 1, 1, ((9, -3, 8, 2, 0),)),
))
HEAD = (
    "head", "fruit",
    (
        ((1, "name", "sign", "x"), (2, "many", "small", 0)),
        ((1, "title", "word", "x"), (2, "many", "small", 0), (3, "mark", "sign", None)),
        ((3, "mark", "word", None), (1, "title", "word", "x")),
    ),
    ((), ((1, ("same",)), (3, ("first", 8)), (2, ("range", 1000))), ((7, ("rest", 100)),)),
    6,
    (
        (2, "make", None, 0, 0, "s1", 0, 0),
        (3, "put", "ann", 1, 0, "s4", 1, 2),
        (7, "gather", "bob", 12, 5, "s4", 2, 1),
    ),
    (("new", 7), ("old", 2), ("older", 2)),
    (("ann", 1, 3), ("bob", 12, 7)),
)
SMALL_HEAD = ("head", "a", (((1, "a", "word", None),),), ((),), 2, ((0, "make", None, 0, 0, "s1", 0, 0),), (), ())

RIGHT = (
    DATA, ("data", 0, 0, (), ((None,),)), ("data", 9, 9, (), (tuple("abcdefgh"), (None,) * 8)),
    MARKS, ("marks", "d1", (0,)), ("marks", "d1", (5,)), ("marks", "d1", tuple(range(300))),
    KEY, ("key", 1, None), ("key", 1, ""), ("key", 10 ** 39, "abcdefgh"), ("key", 1, 0), ("key", 1, 10 ** 12),
    LIST, ("list", (("marks", "m1", 0, "d1", 1),)),
    ("list", (("data", "d1", 0, 1, 0, 0, (), tuple((k, k, k, 0) for k in range(1, 9))),)),
    LISTS, ("lists", ()),
    ("lists", (("l1", 0, 0, ()), ("l1", 9, 9, tuple((k, None, None, 0, 9) for k in range(1, 40))))),
    HEAD, SMALL_HEAD,
)

TEXTS = (
    (DATA, "data 2 0 5 - .ab\nrow 1 .pear -\nrow -7 . -\nrow 1000000000000 .abcdefgh -1000000000000"),
    (("data", 0, 0, (), ((None,),)), "data 0 0\nrow -"),
    (MARKS, "marks d12 0 3 4 90"),
    (("marks", "d1", (0,)), "marks d1 0"),
    (KEY, "key 3 -15"),
    (("key", 1, None), "key 1 -"),
    (("key", 1, ""), "key 1 ."),
    (("key", 20, "a"), "key 20 .a"),
    (("key", 1, 0), "key 1 0"),
    (LIST, "list\n"
           "data d1 0 3 0 1 0 2 1 - - 3 2 -4 10 0\n"
           "data d20 7 1 2 0 3 -1 . - 0\n"
           "marks m3 8 d1 2\n"
           "key k4 9 2 -\n"
           "key k5 0 99 .abc"),
    (LISTS, "lists\n"
            "l5 2 0 2 1 - - 4 0 2 . .zz 0 1\n"
            "l6 0 3 0\n"
            "l17 1 1 1 9 -3 8 2 0"),
    (("lists", ()), "lists"),
    (HEAD, "head fruit 6\n"
           "shape 1 name sign .x 2 many small 0\n"
           "shape 1 title word .x 2 many small 0 3 mark sign -\n"
           "shape 3 mark word - 1 title word .x\n"
           "rule\n"
           "rule 1 same 0 3 first 8 2 range 1000\n"
           "rule 7 rest 100\n"
           "commit 2 make - 0 0 s1 0 0\n"
           "commit 3 put ann 1 0 s4 1 2\n"
           "commit 7 gather bob 12 5 s4 2 1\n"
           "tag new 7\n"
           "tag old 2\n"
           "tag older 2\n"
           "done ann 1 3\n"
           "done bob 12 7"),
    (SMALL_HEAD, "head a 2\nshape 1 a word -\nrule\ncommit 0 make - 0 0 s1 0 0"),
)


def with_place(thing, path, new):
    """The thing with this new one at the place to which the path of places leads."""
    if not path:
        return new
    return (*thing[:path[0]], with_place(thing[path[0]], path[1:], new), *thing[path[0] + 1:])


def at_place(thing, path):
    for place in path:
        thing = thing[place]
    return thing


def paths_of(thing):
    """The paths to all that stands in a tuple of tuples, the empty one first."""
    paths = [()]
    if isinstance(thing, tuple):
        for place, part in enumerate(thing):
            paths.extend((place, *path) for path in paths_of(part))
    return paths
