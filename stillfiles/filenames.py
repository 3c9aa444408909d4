"""Names of files (promise 10), and how they stand by their numbers (promise 15)."""

from stillfiles.wholes import is_figures

# Of data, marks, a key, a list, lists of lists, a head.
LETTERS = "dmklsh"
LETTER_OF = {"data": "d", "marks": "m", "key": "k", "list": "l", "lists": "s", "head": "h"}


def names_file(letters, thing):
    """Whether a thing is the name of a file of one of these letters."""
    if not isinstance(thing, str) or len(thing) < 2:
        return False
    return thing[0] in letters and is_figures(thing[1:]) and thing[1:] != "0"


def stands_in(table, thing):
    """Whether a dict by texts has a thing, of anything: of a list or a dict it can't be asked."""
    return isinstance(thing, str) and thing in table


def by_numbers(names):
    return tuple(sorted(names, key=lambda name: (int(name[1:]), name[0])))
