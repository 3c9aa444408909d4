"""Names of files (promise 10)."""

from stillfiles.wholes import is_figures

# Of data, marks, a key, a list, lists of lists, a head.
LETTERS = "dmklsh"


def names_file(letters, thing):
    """Whether a thing is the name of a file of one of these letters."""
    if not isinstance(thing, str) or len(thing) < 2:
        return False
    return thing[0] in letters and is_figures(thing[1:]) and thing[1:] != "0"
