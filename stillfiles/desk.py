"""A Desk: a Store that is told what to do by rows of words (promise 40)."""

from stillfiles.commits import last_number
from stillfiles.desklines import line_read
from stillfiles.errors import NoWriter
from stillfiles.reading import rows_of
from stillfiles.stores import Store
from stillfiles.words import worth_words

OK = "ok"
NONE = "none"


def files_answer(files):
    return " ".join(files) if files else NONE


def rows_answer(rows):
    return " / ".join([" ".join(worth_words(row)) for row in rows]) if rows else NONE


# Each row of a Store, or of a Writer, is handed what stands behind its first word, or behind the title; what it does
# is told by its answer, of none by OK.
def do_make(store, told):
    table, columns = told
    store.make(table, columns)


def do_wait(store, told):
    store.wait(told[0])


def do_trouble(store, told):
    step, word = told
    store.shelf().trouble(step, word)


def do_sweep(store, told):
    return files_answer(store.sweep())


def do_over(store, told):
    return files_answer(store.left_over())


def do_rows(store, told):
    table, where = told
    head = store.head(table)
    return rows_answer(rows_of(store.shelf(), head, last_number(head), where=where))


def do_at(store, told):
    table, number = told
    return rows_answer(rows_of(store.shelf(), store.head(table), number))


STORE_ROWS = {
    "make": do_make, "wait": do_wait, "trouble": do_trouble, "sweep": do_sweep, "over": do_over, "rows": do_rows,
    "at": do_at,
}


def do_begin(writer, told):
    writer.begin(told[0])


def do_put(writer, told):
    writer.put(told[0])


def do_drop(writer, told):
    writer.drop(told[0])


def do_change(writer, told):
    name, worth, where = told
    writer.change(where, name, worth)


def do_key(writer, told):
    name, worth = told
    writer.key(name, worth)


def do_shape(writer, told):
    writer.reshape(told[0])


def do_rule(writer, told):
    writer.rerule(told[0])


def do_gather(writer, told):
    writer.gather(told[0])


def do_back(writer, told):
    writer.back(told[0])


def do_tag(writer, told):
    tag, number = told
    writer.tag(tag, number)


def do_untag(writer, told):
    writer.untag(told[0])


def do_let(writer, told):
    keep, age = told
    writer.let_go(keep=keep, age=age)


def do_leave(writer, told):
    writer.leave()


def do_close(writer, told):
    writer.close()


def do_ready(writer, told):
    return writer.ready()


def do_swap(writer, told):
    number = writer.swap()
    return NONE if number is None else str(number)


def do_commit(writer, told):
    return str(writer.commit())


def do_found(writer, told):
    return "yes" if writer.found() else "no"


def do_stage(writer, told):
    return writer.stage()


WRITER_ROWS = {
    "begin": do_begin, "put": do_put, "drop": do_drop, "change": do_change, "key": do_key, "shape": do_shape,
    "rule": do_rule, "gather": do_gather, "back": do_back, "tag": do_tag, "untag": do_untag, "let": do_let,
    "leave": do_leave, "close": do_close, "ready": do_ready, "swap": do_swap, "commit": do_commit, "found": do_found,
    "stage": do_stage,
}


class Desk:
    """A Store, and the Writers that rows made for it."""

    def __init__(self):
        self._store = Store()
        self._writers = {}
        self._answers = []

    def __len__(self):
        return len(self._answers)

    def store(self):
        return self._store

    def say(self, row):
        word, told = line_read(row)
        answer = self._done(word, told)
        self._answers.append(OK if answer is None else answer)
        return self._answers[-1]

    def _done(self, word, told):
        if word == "writer":
            self._writers[told[0]] = self._store.writer(told[0])
            return None
        if word in STORE_ROWS:
            action = STORE_ROWS[word]
            return action(self._store, told)
        action = WRITER_ROWS[word]
        return action(self._writer(told[0]), told[1:])

    def _writer(self, title):
        if title not in self._writers:
            raise NoWriter(title)
        return self._writers[title]
