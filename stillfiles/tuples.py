"""Tuples by their lengths, of anything."""


def is_some(thing):
    """Whether a thing is a tuple of one or more."""
    return isinstance(thing, tuple) and len(thing) > 0


def is_of(many, thing):
    """Whether a thing is a tuple of so many."""
    return isinstance(thing, tuple) and len(thing) == many
