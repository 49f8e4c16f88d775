"""Checks the rules of the language subset that a short program can check."""

import ast
import builtins
import pathlib
import re
import unittest

PACKAGE = pathlib.Path(__file__).resolve().parent.parent / "seenrules"
FILES = sorted(path for path in PACKAGE.rglob("*") if "__pycache__" not in path.parts)

BARRED_WORDS = (
    "type typing typing_extensions enum Enum IntEnum StrEnum Flag IntFlag Generic Protocol ABC ABCMeta "
    "namedtuple NamedTuple TypedDict TYPE_CHECKING abstractmethod"
).split()
BARRED_PARTS = ("dataclass", "overload", "contextmanager")
BUILTINS = (
    "len range enumerate zip min max sum abs sorted reversed int str bool list tuple dict set isinstance ord repr any "
    "all divmod iter next Exception ValueError TypeError KeyError IndexError LookupError ZeroDivisionError "
    "ArithmeticError OverflowError RuntimeError NotImplementedError AttributeError StopIteration NotImplemented "
    "property classmethod staticmethod super"
).split()
METHODS = "__init__ __eq__ __repr__ __str__ __len__ __enter__ __exit__ __call__ __iter__ __contains__ __getitem__ __add__"
# Rule L7: these take a list where a class of the package has __eq__.
TAKE_LISTS = ("any", "all", "min", "max", "sum", "sorted")
# Rule L23: these iterate over a generator at once.
TAKE_GENERATORS = (*TAKE_LISTS, "list", "tuple", "dict", "enumerate", "zip")
BARRED_NODES = (ast.Global, ast.AsyncFunctionDef, ast.Await, ast.Div)


def trees():
    """Return pairs of a file's name and its syntax tree."""
    return [(path.name, ast.parse(path.read_text("utf-8"))) for path in FILES if path.suffix == ".py"]


def module_names(tree):
    """Return the names that a module defines itself."""
    names = []
    for node in tree.body:
        if isinstance(node, (ast.FunctionDef, ast.ClassDef)):
            names.append(node.name)
        elif isinstance(node, ast.Assign):
            names += [target.id for target in node.targets]
    return names


class FilesTest(unittest.TestCase):
    def test_names(self):
        for path in FILES:
            self.assertRegex(path.relative_to(PACKAGE).as_posix(), r"^[a-z0-9_]+\.py$")
        self.assertIn("__init__.py", [path.name for path in FILES])

    def test_characters_and_sizes(self):
        for path in FILES:
            text = path.read_text("utf-8")
            self.assertRegex(text, r"\A[ -~\n]*\Z", path.name)
            lines = text.split("\n")
            self.assertLess(len(lines), 400, path.name)
            self.assertLessEqual(max([len(line) for line in lines]), 120, path.name)

    def test_barred_words(self):
        for path in FILES:
            text = path.read_text("utf-8")
            for word in BARRED_WORDS:
                self.assertIsNone(re.search(rf"\b{word}\b", text), (path.name, word))
            for part in BARRED_PARTS:
                self.assertNotIn(part, text, path.name)


class SyntaxTest(unittest.TestCase):
    def test_module_level(self):
        allowed = (ast.FunctionDef, ast.ClassDef, ast.ImportFrom, ast.Assign)
        for name, tree in trees():
            for node in tree.body:
                docstring = isinstance(node, ast.Expr) and isinstance(node.value, ast.Constant)
                self.assertTrue(docstring or isinstance(node, allowed), (name, node.lineno))
            names = module_names(tree)
            self.assertEqual(len(names), len(set(names)), name)

    def test_imports_name_the_defining_file(self):
        defined = {name.removesuffix(".py"): module_names(tree) for name, tree in trees()}
        for name, tree in trees():
            for node in ast.walk(tree):
                self.assertNotIsInstance(node, ast.Import, name)
                if isinstance(node, ast.ImportFrom):
                    package, module = node.module.split(".")
                    self.assertEqual((node.level, package), (0, "seenrules"), name)
                    for alias in node.names:
                        self.assertIn(alias.name, defined[module], name)

    def test_functions(self):
        for name, tree in trees():
            for node in ast.walk(tree):
                if isinstance(node, ast.FunctionDef):
                    self.assertLessEqual(node.end_lineno - node.lineno + 1, 40, (name, node.name))
                    self.assertTrue(not node.name.startswith("_") or node.name in METHODS.split(), (name, node.name))
                    self.assertNotIn(node.name, BUILTINS, name)

    def test_strings(self):
        for name, tree in trees():
            for node in ast.walk(tree):
                if isinstance(node, ast.Constant) and isinstance(node.value, str):
                    self.assertNotIn("%", node.value, (name, node.lineno))

    def test_names_and_calls(self):
        for name, tree in trees():
            for node in ast.walk(tree):
                self.assertNotIsInstance(node, BARRED_NODES, name)
                if isinstance(node, ast.Name):
                    self.assertFalse(node.id.startswith("_"), (name, node.lineno))
                    if isinstance(node.ctx, ast.Store):
                        self.assertNotIn(node.id, BUILTINS, (name, node.lineno))
                if isinstance(node, ast.Attribute) and node.attr != "__init__":
                    self.assertFalse(node.attr.startswith("_"), (name, node.lineno))
                if isinstance(node, ast.Call) and isinstance(node.func, ast.Name) and node.func.id in TAKE_LISTS:
                    for argument in node.args:
                        self.assertNotIsInstance(argument, ast.GeneratorExp, (name, node.lineno))

    def test_no_name_is_both_a_method_and_an_attribute(self):
        methods, attributes = set(), set()
        for name, tree in trees():
            for node in ast.walk(tree):
                if isinstance(node, ast.ClassDef):
                    methods |= {row.name for row in node.body if isinstance(row, ast.FunctionDef)}
                if isinstance(node, ast.Attribute) and isinstance(node.ctx, ast.Store):
                    attributes.add(node.attr)
        self.assertEqual(methods & attributes, set())


    def test_names_in_functions(self):
        for name, tree in trees():
            taken = [alias.name for node in tree.body if isinstance(node, ast.ImportFrom) for alias in node.names]
            taken += [node.name for node in tree.body if isinstance(node, ast.ClassDef)] + dir(builtins)
            for node in ast.walk(tree):
                if isinstance(node, ast.arg):
                    self.assertNotIn(node.arg, taken, (name, node.lineno))
                if isinstance(node, ast.Name) and isinstance(node.ctx, ast.Store):
                    self.assertNotIn(node.id, taken, (name, node.lineno))

    def test_generators_are_iterated_at_once(self):
        names, others = set(), []
        for name, tree in trees():
            for node in ast.walk(tree):
                if isinstance(node, ast.FunctionDef):
                    makes = any(isinstance(part, (ast.Yield, ast.YieldFrom)) for part in ast.walk(node))
                    names.add(node.name) if makes else others.append(node.name)
        self.assertEqual(names & set(others), set())
        for name, tree in trees():
            allowed = []
            for node in ast.walk(tree):
                if isinstance(node, (ast.For, ast.comprehension)):
                    allowed.append(node.iter)
                if isinstance(node, ast.YieldFrom):
                    allowed.append(node.value)
                if isinstance(node, ast.Call) and isinstance(node.func, ast.Name) and node.func.id in TAKE_GENERATORS:
                    allowed += node.args
            for node in ast.walk(tree):
                if isinstance(node, ast.Call):
                    called = node.func.id if isinstance(node.func, ast.Name) else getattr(node.func, "attr", None)
                    self.assertTrue(called not in names or node in allowed, (name, node.lineno))

    def test_a_class_with_items_bars_iteration(self):
        for name, tree in trees():
            for node in ast.walk(tree):
                if isinstance(node, ast.ClassDef):
                    methods = {row.name: row for row in node.body if isinstance(row, ast.FunctionDef)}
                    if "__getitem__" in methods:
                        self.assertIsInstance(methods["__iter__"].body[0], ast.Raise)


if __name__ == "__main__":
    unittest.main()
