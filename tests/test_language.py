"""Checks the rules of the language subset that a short program can check."""

import ast
import builtins
import functools
import pathlib
import re
import unittest

PACKAGE = pathlib.Path(__file__).resolve().parent.parent / "seenrules"
FILES = sorted(path for path in PACKAGE.rglob("*") if "__pycache__" not in path.parts)

BARRED_WORDS = (
    "type typing typing_extensions enum Enum IntEnum StrEnum Flag IntFlag Generic Protocol ABC ABCMeta "
    "namedtuple NamedTuple TypedDict TYPE_CHECKING abstractmethod"
).split()
BARRED_PARTS = ("dataclass", "overload", "contextmanager")
BUILTINS = (
    "len range enumerate zip min max sum abs sorted reversed int str bool list tuple dict set isinstance ord repr any "
    "all divmod iter next Exception ValueError TypeError KeyError IndexError LookupError ZeroDivisionError "
    "ArithmeticError OverflowError RuntimeError NotImplementedError AttributeError StopIteration NotImplemented "
    "property classmethod staticmethod super"
).split()
OWN_METHODS = (
    "append clear copy count endswith extend find get index insert isalnum isalpha isdigit islower isspace isupper items "
    "join keys ljust lower lstrip partition pop remove replace reverse rfind rjust rpartition rsplit rstrip setdefault "
    "split splitlines startswith strip update upper values zfill bit_length removeprefix removesuffix isascii"
).split()
# Rule L23: these are iterated at once.
AT_ONCE = ("range", "zip", "enumerate", "reversed", "items", "keys", "values")
BARRED_NAMES = (
    "register mro elements open input law version_info with_traceback add_note attrgetter breakpoint builtins compile "
    "copyright credits delattr dir eval exec exit gc getattr globals hasattr help id importlib license locals methodcaller "
    "os quit setattr super vars sys"
).split()
METHODS = "__init__ __eq__ __repr__ __str__ __len__ __enter__ __exit__ __call__ __iter__ __contains__ __getitem__ __add__"
# Rule L7: these take a list where a class of the package has __eq__.
TAKE_LISTS = ("any", "all", "min", "max", "sum", "sorted")
# Rule L23: these iterate over a generator at once.
TAKE_GENERATORS = (*TAKE_LISTS, "list", "tuple", "dict", "enumerate", "zip")
BARRED_NODES = (ast.Global, ast.AsyncFunctionDef, ast.Await, ast.Div)


@functools.cache
def trees():
    """Return pairs of a file's name and its syntax tree, the same trees each time."""
    return [(path.name, ast.parse(path.read_text("utf-8"))) for path in FILES if path.suffix == ".py"]


def module_names(tree):
    """Return the names that a module defines itself."""
    names = []
    for node in tree.body:
        if isinstance(node, (ast.FunctionDef, ast.ClassDef)):
            names.append(node.name)
        elif isinstance(node, ast.Assign):
            names += [target.id for target in node.targets]
    return names


class FilesTest(unittest.TestCase):
    def test_names(self):
        for path in FILES:
            self.assertRegex(path.relative_to(PACKAGE).as_posix(), r"^[a-z0-9_]+\.py$")
        self.assertIn("__init__.py", [path.name for path in FILES])

    def test_characters_and_sizes(self):
        for path in FILES:
            text = path.read_text("utf-8")
            self.assertRegex(text, r"\A[ -~\n]*\Z", path.name)
            lines = text.split("\n")
            self.assertLess(len(lines), 400, path.name)
            self.assertLessEqual(max([len(line) for line in lines]), 120, path.name)

    def test_barred_words(self):
        for path in FILES:
            text = path.read_text("utf-8")
            for word in BARRED_WORDS:
                self.assertIsNone(re.search(rf"\b{word}\b", text), (path.name, word))
            for part in BARRED_PARTS:
                self.assertNotIn(part, text, path.name)


class SyntaxTest(unittest.TestCase):
    def test_module_level(self):
        allowed = (ast.FunctionDef, ast.ClassDef, ast.ImportFrom, ast.Assign)
        for name, tree in trees():
            for node in tree.body:
                docstring = isinstance(node, ast.Expr) and isinstance(node.value, ast.Constant)
                self.assertTrue(docstring or isinstance(node, allowed), (name, node.lineno))
            names = module_names(tree)
            self.assertEqual(len(names), len(set(names)), name)

    def test_imports_name_the_defining_file(self):
        defined = {name.removesuffix(".py"): module_names(tree) for name, tree in trees()}
        for name, tree in trees():
            for node in ast.walk(tree):
                self.assertNotIsInstance(node, ast.Import, name)
                if isinstance(node, ast.ImportFrom):
                    package, module = node.module.split(".")
                    self.assertEqual((node.level, package), (0, "seenrules"), name)
                    for alias in node.names:
                        self.assertIn(alias.name, defined[module], name)

    def test_functions(self):
        for name, tree in trees():
            for node in ast.walk(tree):
                if isinstance(node, ast.FunctionDef):
                    self.assertLessEqual(node.end_lineno - node.lineno + 1, 40, (name, node.name))
                    self.assertTrue(not node.name.startswith("_") or node.name in METHODS.split(), (name, node.name))
                    self.assertNotIn(node.name, BUILTINS, name)

    def test_strings(self):
        for name, tree in trees():
            for node in ast.walk(tree):
                if isinstance(node, ast.Constant) and isinstance(node.value, str):
                    self.assertNotIn("%", node.value, (name, node.lineno))

    def test_names_and_calls(self):
        for name, tree in trees():
            for node in ast.walk(tree):
                self.assertNotIsInstance(node, BARRED_NODES, name)
                if isinstance(node, ast.Name):
                    self.assertFalse(node.id.startswith("_"), (name, node.lineno))
                    if isinstance(node.ctx, ast.Store):
                        self.assertNotIn(node.id, BUILTINS, (name, node.lineno))
                if isinstance(node, ast.Attribute) and node.attr != "__init__":
                    self.assertFalse(node.attr.startswith("_"), (name, node.lineno))
                if isinstance(node, ast.Call) and isinstance(node.func, ast.Name) and node.func.id in TAKE_LISTS:
                    for argument in node.args:
                        self.assertNotIsInstance(argument, ast.GeneratorExp, (name, node.lineno))

    def test_no_name_is_both_a_method_and_an_attribute(self):
        methods, attributes = set(), set()
        for name, tree in trees():
            for node in ast.walk(tree):
                if isinstance(node, ast.ClassDef):
                    methods |= {row.name for row in node.body if isinstance(row, ast.FunctionDef)}
                if isinstance(node, ast.Attribute) and isinstance(node.ctx, ast.Store):
                    attributes.add(node.attr)
        self.assertEqual(methods & attributes, set())

    def test_names_in_functions(self):
        for name, tree in trees():
            taken = [alias.name for node in tree.body if isinstance(node, ast.ImportFrom) for alias in node.names]
            taken += [node.name for node in tree.body if isinstance(node, ast.ClassDef)] + dir(builtins)
            for node in ast.walk(tree):
                if isinstance(node, ast.arg):
                    self.assertNotIn(node.arg, taken, (name, node.lineno))
                if isinstance(node, ast.Name) and isinstance(node.ctx, ast.Store):
                    self.assertNotIn(node.id, taken, (name, node.lineno))

    def test_generators_are_iterated_at_once(self):
        names, others = set(), []
        for name, tree in trees():
            for node in ast.walk(tree):
                if isinstance(node, ast.FunctionDef):
                    makes = any(isinstance(part, (ast.Yield, ast.YieldFrom)) for part in ast.walk(node))
                    names.add(node.name) if makes else others.append(node.name)
        self.assertEqual(names & set(others), set())
        for name, tree in trees():
            allowed = []
            for node in ast.walk(tree):
                if isinstance(node, (ast.For, ast.comprehension)):
                    allowed.append(node.iter)
                if isinstance(node, ast.YieldFrom):
                    allowed.append(node.value)
                if isinstance(node, ast.Call) and isinstance(node.func, ast.Name) and node.func.id in TAKE_GENERATORS:
                    allowed += node.args
            for node in ast.walk(tree):
                if isinstance(node, ast.Call):
                    called = node.func.id if isinstance(node.func, ast.Name) else getattr(node.func, "attr", None)
                    self.assertTrue(called not in names or node in allowed, (name, node.lineno))

    def test_a_class_with_items_bars_iteration(self):
        for name, tree in trees():
            for node in ast.walk(tree):
                if isinstance(node, ast.ClassDef):
                    methods = {row.name: row for row in node.body if isinstance(row, ast.FunctionDef)}
                    if "__getitem__" in methods:
                        self.assertIsInstance(methods["__iter__"].body[0], ast.Raise)

def called_name(node):
    """Return the name of what is called, of a function or of a method."""
    return node.func.id if isinstance(node.func, ast.Name) else getattr(node.func, "attr", None)


def nodes(kind):
    """Return pairs of a file's name and a node of a kind, for all files."""
    return [(name, node) for name, tree in trees() for node in ast.walk(tree) if isinstance(node, kind)]


class CallsTest(unittest.TestCase):
    def test_builtins(self):
        for name, node in nodes(ast.Name):
            if isinstance(node.ctx, ast.Load) and hasattr(builtins, node.id):
                self.assertIn(node.id, BUILTINS, (name, node.lineno))

    def test_methods(self):
        own = {node.name for name, node in nodes(ast.FunctionDef)}
        for name, node in nodes(ast.Call):
            if isinstance(node.func, ast.Attribute):
                self.assertIn(node.func.attr, {*OWN_METHODS, *own}, (name, node.lineno))

    def test_iterated_at_once(self):
        allowed = [node.iter for name, node in nodes((ast.For, ast.comprehension))]
        for name, node in nodes(ast.Call):
            if called_name(node) in TAKE_GENERATORS and not (called_name(node) in ("min", "max") and len(node.args) > 1):
                allowed += node.args if called_name(node) == "zip" else node.args[:1]
        # A dict and a list have these methods, own objects do not.
        for name, node in nodes(ast.Call):
            if called_name(node) in AT_ONCE and (isinstance(node.func, ast.Name) or not node.args):
                self.assertTrue(node in allowed, (name, node.lineno))

    def test_keywords_of_builtins(self):
        for name, node in nodes(ast.Call):
            if isinstance(node.func, ast.Name) and hasattr(builtins, node.func.id):
                for keyword in node.keywords:
                    self.assertIn(keyword.arg, ("key", "reverse", "default", "start", "strict"), (name, node.lineno))

    def test_sets(self):
        allowed = []
        for name, node in nodes((ast.Call, ast.Compare, ast.Assign)):
            if isinstance(node, ast.Call) and called_name(node) in ("sorted", "len"):
                allowed += node.args
            elif isinstance(node, ast.Compare):
                allowed += node.comparators
            elif isinstance(node, ast.Assign):
                allowed.append(node.value)
        for name, node in nodes((ast.Call, ast.Set, ast.SetComp)):
            if not isinstance(node, ast.Call) or called_name(node) == "set":
                self.assertTrue(node in allowed, (name, node.lineno))

    def test_raised_on_the_spot(self):
        errors = {node.name for name, node in nodes(ast.ClassDef) if name == "errors.py"} | {"TypeError"}
        for name, node in nodes(ast.Raise):
            self.assertIsInstance(node.exc, ast.Call, (name, node.lineno))
            self.assertIn(node.exc.func.id, errors, (name, node.lineno))
        self.assertEqual(nodes((ast.Try, ast.Assert)), [])


class ShapesTest(unittest.TestCase):
    def test_is(self):
        for name, node in nodes(ast.Compare):
            if isinstance(node.ops[0], (ast.Is, ast.IsNot)):
                self.assertIsInstance(node.comparators[0], ast.Constant, (name, node.lineno))
                self.assertIn(node.comparators[0].value, (None, True, False))

    def test_defaults_and_decorators(self):
        for name, node in nodes(ast.FunctionDef):
            for default in [*node.args.defaults, *[item for item in node.args.kw_defaults if item]]:
                plain = isinstance(default, ast.Constant) or isinstance(default, ast.Tuple) and not default.elts
                self.assertTrue(plain, (name, node.name))
            for decorator in node.decorator_list:
                self.assertIn(decorator.id, ("property", "classmethod"), (name, node.name))

    def test_names(self):
        for name, node in nodes((ast.FunctionDef, ast.ClassDef, ast.arg, ast.Name)):
            found = node.id if isinstance(node, ast.Name) else node.arg if isinstance(node, ast.arg) else node.name
            self.assertNotIn(found, BARRED_NAMES, (name, node.lineno))

    def test_special_methods(self):
        for name, node in nodes(ast.ClassDef):
            for row in node.body:
                if isinstance(row, ast.FunctionDef) and row.name.startswith("__"):
                    self.assertIn(row.name, METHODS.split(), (name, row.lineno))

    def test_values_at_module_level(self):
        for name, tree in trees():
            functions = [node.name for node in tree.body if isinstance(node, ast.FunctionDef)]
            for node in tree.body:
                if isinstance(node, ast.Assign):
                    for part in ast.walk(node.value):
                        self.assertNotIsInstance(part, ast.Call, (name, node.lineno))
                        if isinstance(part, ast.Name):
                            self.assertIn(part.id, functions, (name, node.lineno))

    def test_strings(self):
        for name, node in nodes(ast.Constant):
            if isinstance(node.value, str):
                self.assertFalse(node.value.startswith("__"), (name, node.lineno))
        for name, node in nodes(ast.JoinedStr):
            for part in node.values:
                if isinstance(part, ast.FormattedValue):
                    inner = [item for item in ast.walk(part) if isinstance(item, ast.Constant) and isinstance(item.value, str)]
                    self.assertEqual(inner, [], (name, node.lineno))

    def test_no_module_level_list_is_passed_on(self):
        for name, tree in trees():
            held = [node.targets[0].id for node in tree.body if isinstance(node, ast.Assign) and isinstance(node.value, (ast.List, ast.Dict))]
            read = [node.value for node in ast.walk(tree) if isinstance(node, ast.Subscript)]
            read += [item for node in ast.walk(tree) if isinstance(node, ast.Compare) for item in node.comparators]
            for node in ast.walk(tree):
                if isinstance(node, ast.Name) and isinstance(node.ctx, ast.Load) and node.id in held:
                    self.assertTrue(node in read, (name, node.lineno))

    def test_imports_make_no_circle(self):
        imported = {}
        for name, tree in trees():
            found = [node.module for node in ast.walk(tree) if isinstance(node, ast.ImportFrom)]
            imported["seenrules." + name.removesuffix(".py")] = set(found)
        while free := [name for name in imported if not imported[name]]:
            imported = {name: imported[name] - set(free) for name in imported if name not in free}
        self.assertEqual(imported, {})


if __name__ == "__main__":
    unittest.main()
