"""Places that count what is read of them, for the tests of what is opened."""

from stillfiles.shelves import Shelf

KINDS = {"d": "data", "m": "marks", "k": "key", "l": "list", "s": "lists", "h": "head"}


def shelf_of(files):
    """A Shelf with these files, by name and content, their names numbered from 1 on."""
    shelf = Shelf()
    for name, content in files.items():
        assert shelf.write(KINDS[name[0]], content) == name
    return shelf


def opened_by(shelf, act):
    """The names that an act reads, each as often as it reads it, by numbers."""
    before = len(shelf.opened())
    act()
    return tuple(sorted(shelf.opened()[before:], key=lambda name: int(name[1:])))
