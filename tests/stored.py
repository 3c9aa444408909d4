"""Stores with a table, and commits on it, for the tests of Writers and Readers."""

from stillfiles.contents import is_content
from stillfiles.reading import rows_of
from stillfiles.stores import Store

COLUMNS = (("name", "word", "none"), ("many", "small", 0))
SHAPE = ((1, "name", "word", "none"), (2, "many", "small", 0))
FRUIT = (("pear", 12), ("apple", 3), (None, None), ("fig", 3))


def store_of(columns=COLUMNS, rule=(), **bounds):
    store = Store(**bounds)
    store.make("fruit", columns, rule=rule)
    return store


def begun(store, title="ann"):
    writer = store.writer(title)
    writer.begin("fruit")
    return writer


def commit(store, act, title="zed"):
    """Commits one work, which act makes of a begun Writer; told is the number."""
    writer = begun(store, title)
    act(writer)
    number = writer.commit()
    writer.close()
    return number


def put(store, *rows, title="zed"):
    return commit(store, lambda writer: writer.put(rows), title)


def rows(store, number=None, **more):
    """The rows of a commit of the table, of the present one without a number."""
    head = store.head("fruit")
    assert is_content(head), head
    return rows_of(store.shelf(), head, head[5][-1][0] if number is None else number, **more)


def present(store):
    """The row of the present commit."""
    return store.head("fruit")[5][-1]


def lists(store, number=None):
    """The lists of a commit, of the present one without a number: (name, entries) for each, in order."""
    found = [row for row in store.head("fruit")[5] if number is None or row[0] == number][-1]
    return [(row[0], store.shelf().read(row[0])[1]) for row in store.shelf().read(found[5])[1]]


def entries(store, number=None):
    return [entry for _, told in lists(store, number) for entry in told]


def data_files(store, number=None):
    return [entry[1] for entry in entries(store, number) if entry[0] == "data"]
