"""Whole numbers (promise 2) and the figures that write them."""


def is_whole(thing):
    # Python takes truths for numbers, promise 2 doesn't.
    return isinstance(thing, int) and not isinstance(thing, bool)


def is_from(least, thing):
    return is_whole(thing) and thing >= least


def is_within(least, most, thing):
    return is_whole(thing) and least <= thing <= most


def is_figures(text):
    """Whether a text writes a whole number from 0 on, without noughts ahead."""
    if not (text.isascii() and text.isdigit()):
        return False
    return text == "0" or text[0] != "0"


def all_unlike(things):
    """Of a list of texts, or of whole numbers."""
    return len(set(things)) == len(things)
