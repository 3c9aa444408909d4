"""The names and arguments of DOC.md's interface, each in the file under which it is listed."""

import importlib
import inspect
import unittest

FUNCTIONS = {
    "worths": ("is_name(thing)", "is_worth(thing)", "fits(kind, thing)", "is_wider(kind, other)", "rising(rows)"),
    "shapes": ("is_shape(thing)", "is_row(shape, thing)", "read_by(shape, other, row)",
               "reshaped(shape, next_number, changes)"),
    "conditions": ("bound(shape, where)", "meets(test, worth)"),
    "spans": ("span_of(number, worths)", "may_meet(span, test)"),
    "parts": ("bound_rule(shape, rule)", "part_of(shape, rule, row)", "part_may(rule, part, test)"),
    "contents": ("is_file(thing, *, letter=None)", "is_content(thing)"),
    "contenttexts": ("show_content(content)", "read_content(text)"),
    "listing": ("list_row(file, entries)",),
    "reading": ("commit_of(head, number)", "entries_of(place, head, number)", "away(place, head, number, file)",
                "rows_of(place, head, number, *, where=(), names=None, by=None)"),
    "planning": ("plan_of(place, head, number, where)",),
    "doings": ("did(place, head, number)",),
    "meeting": ("met(place, head, work)",),
    "meetchecks": ("is_work(thing)", "led_holds(place, head, work, thing)", "clash_holds(place, head, work, thing)"),
    "gathering": ("small_ones(place, head, number, *, below=8)",),
    "changes": ("changes_of(place, head, one, other)", "put_on(rows, changes)"),
    "papers": ("row_paper(place, head, number, row)", "none_paper(place, head, number, where)", "chain_of(store, name)"),
    "paperchecks": ("row_holds(place, head, number, row, thing)", "none_holds(place, head, number, where, thing)",
                    "chain_holds(store, name, thing)"),
    "histories": ("history_paper(columns, claims)",),
    "historychecks": ("history_holds(columns, claims, thing)",),
    "faults": ("faults_of(place, file)",),
    "findings": ("finding_holds(thing)",),
}
# What begins with a class's own name is how it is made, None of one that the interface doesn't tell how to make.
CLASSES = {
    "shelves": {
        "Shelf": ("Shelf()", "write(kind, content)", "read(name)", "has(name)", "written(name)", "erase(name)",
                  "names(*, by=None)", "swap(table, ahead, new)", "pointed(table)", "tables()", "moment()",
                  "wait(many)", "opened()", "steps()", "trouble(step, word)", "__len__()"),
        "Folder": ("Folder(files=())", "read(name)", "has(name)", "names(*, by=None)", "__len__()"),
    },
    "plain": {
        "Plain": ("Plain(columns, *, rule=())", "do(deed, *, base=None)", "rows(*, at=None, where=(), names=None)",
                  "shape(*, at=None)", "rule()", "__len__()", "__eq__(other)"),
    },
    "stores": {
        "Store": ("Store(*, age=10, let=10)", "shelf()", "make(table, columns, *, rule=())", "tables()", "head(table)",
                  "done(table, title)", "writer(title)", "reader(table, *, at=None, tag=None, moment=None)", "named()",
                  "left_over()", "sweep()", "moment()", "wait(many)", "__len__()"),
    },
    "writers": {
        "Writer": ("titled()", "stage()", "work()", "busy()", "begin(table)", "put(rows, *, size=8)", "drop(where)",
                   "change(where, name, worth)", "key(name, worth)", "reshape(changes)", "rerule(rule)",
                   "gather(files, *, size=8)", "back(number)", "tag(tag, number)", "untag(tag)",
                   "let_go(*, keep=3, age=10)", "ready()", "swap()", "commit(*, tries=4, look=None)", "found()",
                   "leave()", "close()"),
    },
    "readers": {
        "Reader": ("table()", "commit_number()", "ends()", "shape()", "rows(*, where=(), names=None, by=None)",
                   "plan(where)", "renew()", "close()"),
    },
    "desk": {
        "Desk": ("Desk()", "say(row)", "store()", "__len__()"),
    },
}


class Interface(unittest.TestCase):
    def test_functions(self):
        for file, told in FUNCTIONS.items():
            module = importlib.import_module("stillfiles." + file)
            for call in told:
                function = getattr(module, call.partition("(")[0])
                self.assertTrue(inspect.isfunction(function), call)
                self.assertEqual(function.__name__ + str(inspect.signature(function)), call)
                self.assertEqual(function.__module__, "stillfiles." + file)

    def test_classes(self):
        for file, classes in CLASSES.items():
            module = importlib.import_module("stillfiles." + file)
            for name, told in classes.items():
                made = getattr(module, name)
                self.assertEqual((made.__module__, made.__bases__), ("stillfiles." + file, (object,)))
                for call in told:
                    self.check_call(made, call)

    def check_call(self, made, call):
        """A class is made as it is told, or has a method in its own body that is called so."""
        called = call.partition("(")[0]
        if called == made.__name__:
            self.assertEqual(called + str(inspect.signature(made)), call)
            return
        self.assertIn(called, vars(made), made.__name__)
        parameters = list(inspect.signature(vars(made)[called]).parameters.values())
        self.assertEqual(parameters[0].name, "self")
        self.assertEqual(called + str(inspect.Signature(parameters[1:])), call)

    def test_errors(self):
        module = importlib.import_module("stillfiles.errors")
        for name, thing in vars(module).items():
            if inspect.isclass(thing):
                self.assertEqual((thing.__module__, thing.__name__), ("stillfiles.errors", name))


if __name__ == "__main__":
    unittest.main()
