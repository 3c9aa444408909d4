"""Things of many kinds, for the tests of what is asked of anything."""


def deep(levels):
    """A tuple in a tuple, so many levels deep."""
    thing = ()
    for _ in range(levels - 1):
        thing = (thing,)
    return thing


def deep_mix(levels):
    """Tuples, lists and dicts in each other, so many levels deep."""
    thing = 1
    for level in range(levels):
        thing = ((thing,), [thing], {"a": thing})[level % 3]
    return thing


LARGE = 9_999_999_999_999_999_999_999_999_999_999_999_999_999

ANYTHING = (
    None, True, False, 0, 1, -1, 2, 7, LARGE, -LARGE,
    "", "a", "ab", "abcdef", "abcdefg", "A", "a b", "a\n", "\n", "1", "-", ":", "x" * 4000, "7" * 4000, "~",
    (), ((),), (None,), (True,), (1,), ("a",), (1, 2), ("a", 1), (None,) * 5, (1, "a", "small", None),
    [], [[]], [None], [1], ["a"], [("a", "is", 1)], [(1, "a", "small", None)],
    {}, {"a": 1}, {1: "a"}, {(): []}, ({},), ([],), ({}, {}, {}), ([], [], [], []), (({},),), (([],),),
    ("is", [], {}), ({}, "is", 1), ("a", [], 1), ("a", {}, 1), ("a", "is", []), ("a", "is", {}),
    deep(20), deep_mix(20), (1,) * 60_000, tuple(range(59_000)), [("a", "is", 1)] * 15_000, (("a", "is", 1),) * 15_000,
)
