"""Those rules of LANGUAGE.md that the files' text and trees show at once; the others are kept by hand."""

import ast
import builtins
import pathlib
import re
import unittest

FOLDER = pathlib.Path(__file__).parent.parent / "stillfiles"
FILES = {path.stem: path.read_text(encoding="ascii") for path in sorted(FOLDER.rglob("*.py"))}
TREES = {name: ast.parse(text) for name, text in FILES.items()}
BUILTINS = """len range enumerate zip min max sum abs sorted reversed int str bool list tuple dict set isinstance ord
repr any all divmod map iter next ValueError KeyError ArithmeticError NotImplemented""".split()
METHODS = """append clear copy count endswith extend find get index insert isalnum isalpha isdigit islower isspace
isupper items join keys ljust lower lstrip partition pop remove replace reverse rfind rjust rpartition rsplit rstrip
setdefault split splitlines startswith strip update upper values zfill isascii removeprefix removesuffix""".split()
# GeneratorExp and Div are among the rules' bounds, too: lists do in the place of the one, // in that of the other.
BARRED = (ast.Global, ast.AsyncFunctionDef, ast.Await, ast.GeneratorExp, ast.Div, ast.Match, ast.Set)
WORDS = r"\b(type|typing|enum|Enum|Flag|Generic|Protocol|ABC|namedtuple|register|mro|elements|open|input|law|eval|exec)\b"


def nodes(kind):
    for name, tree in TREES.items():
        for node in ast.walk(tree):
            if isinstance(node, kind):
                yield name, node


class Texts(unittest.TestCase):
    def test_nothing_but_files_of_the_program(self):
        others = [path for path in FOLDER.rglob("*") if path.suffix != ".py" and "__pycache__" not in path.parts]
        self.assertEqual(others, [])

    def test_signs_and_sizes(self):
        for name, text in FILES.items():
            self.assertLessEqual(text.count("\n"), 399, name)
            self.assertNotRegex(text, r"[^ -~\n]", name)
            self.assertLessEqual(max([len(line) for line in text.split("\n")]), 120, name)

    def test_functions_are_short(self):
        for name, node in nodes(ast.FunctionDef):
            self.assertLessEqual(node.end_lineno - node.lineno + 1, 40, (name, node.name))

    def test_strings(self):
        for name, node in nodes(ast.Constant):
            self.assertNotIsInstance(node.value, (float, complex), name)
            if isinstance(node.value, str):
                self.assertNotIn("%", node.value, name)

    def test_words_that_are_not_used(self):
        for name, tree in TREES.items():
            code = ast.unparse(tree)
            for docstring in re.findall(r'""".*?"""', code, re.DOTALL):
                code = code.replace(docstring, "")
            self.assertNotRegex(code, WORDS, name)


class Trees(unittest.TestCase):
    def test_barred_statements_and_expressions(self):
        self.assertEqual([(name, ast.dump(node)) for name, node in nodes(BARRED)], [])

    def test_just_own_errors_are_caught(self):
        own = {node.name for node in TREES["errors"].body if isinstance(node, ast.ClassDef)}
        for name, node in nodes(ast.ExceptHandler):
            caught = node.type.elts if isinstance(node.type, ast.Tuple) else [node.type]
            for error in caught:
                self.assertIn(error.id, own, name)

    def test_finally_assigns_nothing_but_plain_values(self):
        for name, node in nodes(ast.Try):
            for statement in node.finalbody:
                self.assertIsInstance(statement, ast.Assign, name)
                self.assertIsInstance(statement.value, (ast.Constant, ast.Name, ast.Attribute), name)

    def test_what_is_raised_is_made_on_the_spot_or_the_handlers_own(self):
        handled = [node for _, handler in nodes(ast.ExceptHandler) for node in ast.walk(handler)]
        for name, node in nodes(ast.Raise):
            self.assertTrue(isinstance(node.exc, ast.Call) or node.exc is None and node in handled, name)

    def test_no_length_but_that_of_something(self):
        for name, node in nodes(ast.FunctionDef):
            if node.name == "__len__":
                self.assertEqual(node.body[-1].value.func.id, "len", name)

    def test_no_name_is_a_method_and_an_attribute_of_one_class(self):
        for name, node in nodes(ast.ClassDef):
            methods = {part.name for part in node.body if isinstance(part, ast.FunctionDef)}
            stored = {part.attr for part in ast.walk(node) if isinstance(part, ast.Attribute)
                      and isinstance(part.ctx, ast.Store)}
            self.assertEqual(methods & stored, set(), (name, node.name))

    def test_decorators(self):
        for name, node in nodes((ast.FunctionDef, ast.ClassDef)):
            self.assertEqual(node.decorator_list, [], (name, node.name))

    def test_builtins(self):
        every = set(dir(builtins))
        for name, node in nodes(ast.Name):
            if node.id in every:
                self.assertIn(node.id, BUILTINS, name)
                self.assertIsInstance(node.ctx, ast.Load, (name, node.id))
        for name, node in nodes(ast.arg):
            self.assertNotIn(node.arg, every, name)
        for name, node in nodes((ast.FunctionDef, ast.ClassDef)):
            self.assertNotIn(node.name, set(BUILTINS), name)

    def test_methods(self):
        own = {node.name for _, node in nodes(ast.FunctionDef)}
        for name, node in nodes(ast.Call):
            if isinstance(node.func, ast.Attribute):
                self.assertIn(node.func.attr, {*METHODS, *own}, name)

    def test_names(self):
        for name, node in nodes(ast.Name):
            self.assertRegex(node.id, r"\A_?[A-Za-z][A-Za-z0-9_]*\Z|\A_\Z", name)

    def test_module_level(self):
        for name, tree in TREES.items():
            kinds = (ast.ImportFrom, ast.FunctionDef, ast.ClassDef, ast.Assign)
            for node in tree.body[1:]:
                self.assertIsInstance(node, kinds, name)
            bound = [alias.name for node in tree.body if isinstance(node, ast.ImportFrom) for alias in node.names]
            bound += [node.name for node in tree.body if isinstance(node, (ast.FunctionDef, ast.ClassDef))]
            bound += [target.id for node in tree.body if isinstance(node, ast.Assign) for target in node.targets]
            self.assertEqual(len(bound), len(set(bound)), name)


    def test_tables_hold_plain_values_and_functions_of_their_file(self):
        for name, tree in TREES.items():
            own = {node.name for node in tree.body if isinstance(node, ast.FunctionDef)}
            for node in tree.body:
                if isinstance(node, ast.Assign):
                    told = {part.id for part in ast.walk(node.value) if isinstance(part, ast.Name)}
                    self.assertLessEqual(told, own, name)


class Imports(unittest.TestCase):
    def test_they_name_files_of_the_package(self):
        self.assertEqual(list(nodes(ast.Import)), [])
        for name, node in nodes(ast.ImportFrom):
            self.assertEqual((node.level, node.module.split(".")[0]), (0, "stillfiles"), name)
            file = node.module.split(".")[1]
            for alias in node.names:
                self.assertIsNone(alias.asname, name)
                self.assertIn(alias.name, self.defined(file), (name, file))

    def test_each_is_used(self):
        for name, node in nodes(ast.ImportFrom):
            used = {other.id for other in ast.walk(TREES[name]) if isinstance(other, ast.Name)}
            self.assertEqual([alias.name for alias in node.names if alias.name not in used], [], name)

    def test_no_two_files_import_from_each_other(self):
        reached = {name: set() for name in TREES}
        for name, node in nodes(ast.ImportFrom):
            reached[name].add(node.module.split(".")[1])
        for _ in TREES:
            reached = {name: below.union(*[reached[file] for file in below]) for name, below in reached.items()}
        for name, below in reached.items():
            self.assertNotIn(name, below)

    def defined(self, file):
        names = []
        for node in TREES[file].body:
            if isinstance(node, (ast.FunctionDef, ast.ClassDef)):
                names.append(node.name)
            elif isinstance(node, ast.Assign):
                names.extend(target.id for target in node.targets)
        return names


if __name__ == "__main__":
    unittest.main()
