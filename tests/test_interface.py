"""The names and arguments of DOC.md's interface, each in the file under which it is listed."""

import importlib
import inspect
import unittest

FUNCTIONS = {
    "worths": ("is_name(thing)", "is_worth(thing)", "fits(kind, thing)", "is_wider(kind, other)", "rising(rows)"),
    "shapes": ("is_shape(thing)", "is_row(shape, thing)", "read_by(shape, other, row)",
               "reshaped(shape, next_number, changes)"),
    "conditions": ("bound(shape, where)", "meets(test, worth)"),
    "spans": ("span_of(number, worths)", "may_meet(span, test)"),
    "parts": ("bound_rule(shape, rule)", "part_of(shape, rule, row)", "part_may(rule, part, test)"),
    "contents": ("is_file(thing, *, letter=None)", "is_content(thing)"),
    "contenttexts": ("show_content(content)", "read_content(text)"),
}


class Interface(unittest.TestCase):
    def test_functions(self):
        for file, told in FUNCTIONS.items():
            module = importlib.import_module("stillfiles." + file)
            for call in told:
                function = getattr(module, call.partition("(")[0])
                self.assertTrue(inspect.isfunction(function), call)
                self.assertEqual(function.__name__ + str(inspect.signature(function)), call)
                self.assertEqual(function.__module__, "stillfiles." + file)

    def test_errors(self):
        module = importlib.import_module("stillfiles.errors")
        for name, thing in vars(module).items():
            if inspect.isclass(thing):
                self.assertEqual((thing.__module__, thing.__name__), ("stillfiles.errors", name))


if __name__ == "__main__":
    unittest.main()
