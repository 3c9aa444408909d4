"""Test cases that ask for refusals: the error's class, and its fields."""

import unittest


class Refusing(unittest.TestCase):
    def refused(self, error, call, **fields):
        """The call raises just this error, with just these fields (a truth is no number there)."""
        with self.assertRaises(error) as caught:
            call()
        self.assertIs(caught.exception.__class__, error)
        self.assertEqual(vars(caught.exception), fields)
        for name, field in fields.items():
            self.assertIs(vars(caught.exception)[name].__class__, field.__class__)
