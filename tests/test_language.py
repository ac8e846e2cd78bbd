"""Those rules of the language of the package that can be seen at a glance."""

import ast
import builtins
import unittest
from pathlib import Path

PACKAGE = Path(__file__).resolve().parent.parent / "keptpairs"
BARRED = {"typing", "enum", "Enum", "Flag", "Generic", "Protocol", "namedtuple", "dataclass", "global"}
UNUSED = {"register", "mro", "elements", "open", "input", "law", "eval", "exec", "compile", "vars", "dir", "id"}
LIBRARY = {"heapq", "math", "collections"}
AT_ONCE = {"range", "zip", "enumerate", "reversed"}
TAKERS = {"list", "tuple", "dict", "sorted", "sum", "any", "all", "min", "max", "enumerate", "zip", "len", "reversed"}


def files():
    return [path for path in sorted(PACKAGE.rglob("*")) if path.is_file() and "__pycache__" not in path.parts]


def trees():
    return [(path.name, ast.parse(path.read_text(encoding="ascii"))) for path in files()]


def defined(path):
    """The names that a file itself defines at module level."""
    found = set()
    for node in ast.parse(path.read_text(encoding="ascii")).body:
        if isinstance(node, (ast.FunctionDef, ast.ClassDef)):
            found.add(node.name)
        if isinstance(node, ast.Assign):
            found.update(target.id for target in node.targets)
    return found


class LanguageTest(unittest.TestCase):

    def test_only_sources_with_plain_names(self):
        for path in files():
            self.assertRegex(str(path.relative_to(PACKAGE)), r"^[a-z0-9_]+\.py$")
        self.assertIn("__init__.py", [path.name for path in files()])

    def test_characters_and_sizes(self):
        for path in files():
            text = path.read_text(encoding="utf-8")
            self.assertRegex(text, r"\A[ -~\n]*\Z", path.name)
            self.assertLessEqual(len(text.splitlines()), 399, path.name)
            self.assertLessEqual(max(map(len, text.splitlines())), 120, path.name)

    def test_functions_are_small(self):
        for name, tree in trees():
            for node in ast.walk(tree):
                if isinstance(node, ast.FunctionDef):
                    self.assertLessEqual(node.end_lineno - node.lineno + 1, 40, (name, node.name))

    def test_imports(self):
        for name, tree in trees():
            for node in ast.walk(tree):
                self.assertNotIsInstance(node, ast.Import, name)
                if not isinstance(node, ast.ImportFrom) or node.module in LIBRARY:
                    continue
                self.assertEqual((node.level, node.module.split(".")[0]), (0, "keptpairs"), name)
                home = defined(PACKAGE / (node.module.split(".")[1] + ".py"))
                for alias in node.names:
                    self.assertIn(alias.name, home, name)
                    self.assertIsNone(alias.asname)

    def test_module_level(self):
        allowed = (ast.FunctionDef, ast.ClassDef, ast.ImportFrom, ast.Assign)
        for name, tree in trees():
            self.assertIsNotNone(ast.get_docstring(tree), name)
            for node in tree.body[1:]:
                self.assertIsInstance(node, allowed, name)
                if isinstance(node, ast.Assign):
                    ast.literal_eval(node.value)

    def test_names(self):
        taken = set(dir(builtins)) | UNUSED
        for name, tree in trees():
            for node in ast.walk(tree):
                if isinstance(node, ast.Name) and isinstance(node.ctx, ast.Store):
                    self.assertNotIn(node.id, taken, name)
                if isinstance(node, ast.arg):
                    self.assertNotIn(node.arg, taken, name)
                if isinstance(node, (ast.FunctionDef, ast.ClassDef)):
                    self.assertNotIn(node.name, UNUSED, name)

    def test_words(self):
        for path in files():
            text = path.read_text(encoding="ascii")
            for word in BARRED:
                self.assertNotRegex(text, rf"\b{word}\b", path.name)

    def test_what_is_left_out(self):
        barred = (ast.GeneratorExp, ast.AsyncFunctionDef, ast.Global, ast.Import, ast.Div, ast.Set, ast.SetComp)
        for name, tree in trees():
            for node in ast.walk(tree):
                self.assertNotIsInstance(node, barred, name)
                if isinstance(node, ast.Constant):
                    self.assertNotIsInstance(node.value, float, name)
                    if isinstance(node.value, str):
                        self.assertNotIn("%", node.value, name)

    def test_decorators(self):
        for name, tree in trees():
            for node in ast.walk(tree):
                for mark in getattr(node, "decorator_list", []):
                    self.assertIn(ast.unparse(mark), ("property", "staticmethod"), name)

    def test_ranges_and_zips_are_iterated_at_once(self):
        for name, tree in trees():
            taken = set()
            for node in ast.walk(tree):
                if isinstance(node, (ast.For, ast.comprehension)):
                    taken.add(node.iter)
                if isinstance(node, ast.Call) and isinstance(node.func, ast.Name) and node.func.id in TAKERS:
                    taken.update(node.args)
            for node in ast.walk(tree):
                if isinstance(node, ast.Call) and isinstance(node.func, ast.Name) and node.func.id in AT_ONCE:
                    self.assertIn(node, taken, (name, node.lineno))

    def test_no_variable_has_the_name_of_a_class_or_an_import_of_its_file(self):
        for name, tree in trees():
            bound = {alias.name for node in tree.body if isinstance(node, ast.ImportFrom) for alias in node.names}
            bound |= {node.name for node in tree.body if isinstance(node, ast.ClassDef)}
            for node in ast.walk(tree):
                if isinstance(node, ast.Name) and isinstance(node.ctx, ast.Store):
                    self.assertNotIn(node.id, bound, (name, node.lineno))
                if isinstance(node, ast.arg):
                    self.assertNotIn(node.arg, bound, (name, node.lineno))

    def test_each_function_stands_in_one_file_only(self):
        found = []
        for _, tree in trees():
            found += [node.name for node in tree.body if isinstance(node, (ast.FunctionDef, ast.ClassDef))]
        self.assertEqual(len(found), len(set(found)))

    def test_no_file_imports_itself_by_way_of_others(self):
        needs = {}
        for name, tree in trees():
            needs[name] = [node.module.split(".")[1] + ".py" for node in ast.walk(tree)
                           if isinstance(node, ast.ImportFrom) and node.module.startswith("keptpairs.")]
        done = []
        while len(done) < len(needs):
            free = [name for name in needs if name not in done and all(other in done for other in needs[name])]
            self.assertTrue(free)
            done += free

    def test_augmented_assignment_is_for_numbers(self):
        for name, tree in trees():
            for node in ast.walk(tree):
                if isinstance(node, ast.AugAssign):
                    self.assertEqual(ast.unparse(node).split(" ", 1)[1], "+= 1", (name, node.lineno))
