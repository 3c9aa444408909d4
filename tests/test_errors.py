import unittest

from stillfiles import errors, limits
from things import ANYTHING

BARE = ("NoShape", "NoCond", "NoRule", "Full", "Last", "Busy", "NoLine")
STILL = {
    "NoName": "name", "Taken": "name", "NoFit": "name", "Used": "name", "NoChange": "place", "NoRow": "place",
    "NoDeed": "deed", "NoText": "row", "TooLate": "base", "Tired": "tries", "NotNow": "state", "Over": "until",
}
MISSING = {
    "NoColumn": "name", "NoFile": "file", "NoTable": "name", "NoCommit": "number", "NoTag": "name", "NoWriter": "name",
}
TROUBLE = {"Crash": "step", "Lost": "step"}


def parents():
    """Each class by its name, and the name of the one class that it stands straight under."""
    told = {"StillError": "ValueError", "Missing": "KeyError", "Trouble": "ArithmeticError"}
    told.update({name: "StillError" for name in (*BARE, *STILL, "Clash")})
    told.update({name: "Missing" for name in MISSING})
    told.update({name: "Trouble" for name in TROUBLE})
    return told


def made(name):
    return getattr(errors, name)(*[1] * {"Clash": 3}.get(name, name in {**STILL, **MISSING, **TROUBLE}))


class Classes(unittest.TestCase):
    def test_there_are_just_the_told_ones(self):
        own = {name for name, thing in vars(errors).items() if isinstance(thing, type)}
        self.assertEqual(own, set(parents()))

    def test_each_stands_straight_under_the_told_one(self):
        for name, above in parents().items():
            self.assertEqual([base.__name__ for base in getattr(errors, name).__bases__], [above], name)

    def test_each_is_caught_as_itself_and_those_above_alone(self):
        told = parents()
        for name in told:
            above = {name, told[name], told.get(told[name])}
            for other in told:
                caught = isinstance(made(name), getattr(errors, other))
                self.assertEqual(caught, other in above, (name, other))
            for other in (ValueError, KeyError, ArithmeticError):
                self.assertEqual(isinstance(made(name), other), other.__name__ in above, (name, other))

    def test_each_is_raised_and_caught(self):
        for name in parents():
            with self.assertRaises(getattr(errors, name)):
                raise made(name)


class Fields(unittest.TestCase):
    def test_the_field_is_the_thing_handed_in(self):
        for name, field in {**STILL, **MISSING, **TROUBLE}.items():
            for thing in (*ANYTHING, object()):
                by_place = getattr(errors, name)(thing)
                by_name = getattr(errors, name)(**{field: thing})
                self.assertIs(getattr(by_place, field), thing)
                self.assertIs(getattr(by_name, field), thing)

    def test_no_other_field_is_set(self):
        for name, field in {**STILL, **MISSING, **TROUBLE}.items():
            self.assertEqual(list(vars(getattr(errors, name)(1))), [field])

    def test_a_field_is_needed_where_one_is_told(self):
        for name in (*STILL, *MISSING, *TROUBLE, "Clash"):
            with self.assertRaises(TypeError):
                getattr(errors, name)()

    def test_a_clash_has_three(self):
        thing = {"a": []}
        for clash in (errors.Clash(3, "took", thing), errors.Clash(file=thing, word="took", number=3)):
            self.assertEqual((clash.number, clash.word), (3, "took"))
            self.assertIs(clash.file, thing)
        clash = errors.Clash(thing, ANYTHING, None)
        self.assertIs(clash.number, thing)
        self.assertIs(clash.word, ANYTHING)
        self.assertIsNone(clash.file)


class Limits(unittest.TestCase):
    def test_the_five_numbers(self):
        own = {name: thing for name, thing in vars(limits).items() if not name.startswith("_")}
        self.assertEqual(own, {"AGE": 10, "LET": 10, "KEEP": 3, "SIZE": 8, "TRIES": 4})
        self.assertEqual([type(thing) for thing in own.values()], [int] * 5)


if __name__ == "__main__":
    unittest.main()
