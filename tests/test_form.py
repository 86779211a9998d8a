"""The form of the package's code: those rules of the language that a plain look can see."""

import ast
import builtins
import functools
import pathlib
import re
import unittest

PACKAGE = pathlib.Path(__file__).resolve().parent.parent / "tiehues"
BUILTINS = set(
    "len range enumerate zip min max sum abs sorted reversed int str bool bytes list tuple dict set frozenset"
    " isinstance ord repr any all divmod Exception ValueError TypeError KeyError IndexError LookupError"
    " ZeroDivisionError ArithmeticError OverflowError RuntimeError NotImplementedError AttributeError"
    " StopIteration NotImplemented".split()
)
BARRED = set(
    "type typing typing_extensions enum Enum IntEnum StrEnum Flag IntFlag Generic Protocol ABC ABCMeta namedtuple"
    " NamedTuple TypedDict TYPE_CHECKING abstractmethod".split()
)
BARRED_PARTS = ("dataclass", "overload", "contextmanager")
BARRED_NAMES = set(
    "register mro elements open input version_info with_traceback add_note attrgetter breakpoint builtins compile"
    " copyright credits delattr dir eval exec exit gc getattr globals hasattr help id importlib license locals"
    " methodcaller os quit setattr super type vars sys".split()
)
DUNDERS = {"__init__", "__eq__", "__repr__", "__str__", "__len__"}
METHODS = set(
    "append clear copy count endswith extend find get index insert isalnum isalpha isdigit islower isspace isupper"
    " items join keys ljust lower lstrip partition pop remove replace reverse rfind rjust rpartition rsplit rstrip"
    " setdefault split splitlines startswith strip update upper values zfill bit_length add discard sort"
    " isascii".split()
)
VALUE_NAMES = {name for kind in (str, int, list, dict, set, bytes, tuple) for name in dir(kind)}
AT_ONCE = {"zip", "enumerate", "reversed", "range"}
VIEWS = {"items", "keys", "values"}
ITERATING = set("list tuple dict sorted sum any all enumerate zip bytes min max".split())
LEFT_OUT = (
    ast.Global, ast.AsyncFunctionDef, ast.AsyncFor, ast.AsyncWith, ast.Await, ast.Import, ast.Div, ast.MatMult,
)


def sources():
    return sorted(PACKAGE.glob("*.py"))


@functools.cache
def trees():
    return [(path.name, ast.parse(path.read_text())) for path in sources()]


def nodes(*kinds):
    return [(name, node) for name, tree in trees() for node in ast.walk(tree) if isinstance(node, kinds)]


def given_names(node):
    """The names that a part of the code gives a meaning to."""
    if isinstance(node, (ast.FunctionDef, ast.ClassDef)):
        return [node.name]
    if isinstance(node, ast.arg):
        return [node.arg]
    if isinstance(node, ast.Name) and isinstance(node.ctx, ast.Store):
        return [node.id]
    if isinstance(node, ast.ExceptHandler) and node.name:
        return [node.name]
    return []


@functools.cache
def own_methods():
    return {part.name for file, node in nodes(ast.ClassDef) for part in node.body if isinstance(part, ast.FunctionDef)}


@functools.cache
def own_attributes():
    return {node.attr for file, node in nodes(ast.Attribute) if isinstance(node.ctx, ast.Store)}


def called(node):
    """The name of what a call calls, or of the method."""
    if not isinstance(node, ast.Call):
        return None
    return node.func.id if isinstance(node.func, ast.Name) else node.func.attr


def iterated_at_once(tree):
    """All parts of the code that stand where a loop or a builtin goes through them on the spot."""
    found = []
    for node in ast.walk(tree):
        if isinstance(node, (ast.For, ast.comprehension)):
            found.append(node.iter)
        elif called(node) in ITERATING:
            found += node.args
    return found


class Files(unittest.TestCase):
    def test_only_plain_files(self):
        found = [path.name for path in PACKAGE.iterdir() if path.name != "__pycache__"]
        self.assertIn("__init__.py", found)
        for name in found:
            self.assertRegex(name, r"\A[a-z0-9_]+\.py\Z")

    def test_sizes(self):
        for path in sources():
            rows = path.read_text().split("\n")
            self.assertLessEqual(len(rows), 401, path.name)
            for number, row in enumerate(rows, 1):
                self.assertLessEqual(len(row), 120, (path.name, number))
        for name, node in nodes(ast.FunctionDef):
            self.assertLessEqual(node.end_lineno - node.lineno + 1, 40, (name, node.name))

    def test_signs(self):
        for path in sources():
            self.assertRegex(path.read_bytes(), rb"\A[ -~\n]*\Z", path.name)

    def test_barred_words(self):
        for path in sources():
            text = path.read_text()
            self.assertEqual(set(re.findall(r"\w+", text)) & BARRED, set(), path.name)
            for part in BARRED_PARTS:
                self.assertNotIn(part, text, path.name)


class Names(unittest.TestCase):
    def test_given_names(self):
        for file, tree in trees():
            for node in ast.walk(tree):
                for name in given_names(node):
                    if name in DUNDERS:
                        continue
                    self.assertRegex(name, r"\A[A-Za-z][A-Za-z0-9_]*\Z", file)
                    self.assertNotIn(name, BARRED_NAMES, file)
                    self.assertFalse(hasattr(builtins, name), (file, name))

    def test_builtins(self):
        for file, node in nodes(ast.Name):
            if hasattr(builtins, node.id):
                self.assertIn(node.id, BUILTINS, (file, node.lineno))

    def test_bound_once(self):
        for file, tree in trees():
            bound = []
            for node in tree.body:
                if isinstance(node, ast.ImportFrom):
                    bound += [part.asname or part.name for part in node.names]
                elif isinstance(node, ast.Assign):
                    bound += [target.id for target in node.targets]
                elif not isinstance(node, ast.Expr):
                    bound += given_names(node)
            self.assertEqual(len(bound), len(set(bound)), file)

    def test_locals_are_no_imports_or_classes(self):
        for file, tree in trees():
            barred = {part.name for node in tree.body if isinstance(node, ast.ImportFrom) for part in node.names}
            barred |= {node.name for node in tree.body if isinstance(node, ast.ClassDef)}
            for function in ast.walk(tree):
                if isinstance(function, ast.FunctionDef):
                    inner = {name for node in ast.walk(function) for name in given_names(node)}
                    self.assertEqual(inner & barred, set(), (file, function.name))


class Parts(unittest.TestCase):
    def test_imports(self):
        for file, tree in trees():
            for node in ast.walk(tree):
                if isinstance(node, ast.ImportFrom):
                    self.assertIn(node, tree.body, file)
                    self.assertEqual(node.level, 0, file)
                    self.assertRegex(node.module, r"\A(tiehues\.[a-z0-9_]+|__future__)\Z", file)
                    self.assertNotIn("*", [part.name for part in node.names], file)

    def test_imports_go_one_way(self):
        asked = {file[:-3]: set() for file, tree in trees()}
        for file, node in nodes(ast.ImportFrom):
            if node.module != "__future__":
                asked[file[:-3]].add(node.module.split(".")[1])
        while asked:
            done = [file for file, wanted in asked.items() if not wanted & set(asked)]
            self.assertTrue(done, asked)
            for file in done:
                del asked[file]

    def test_left_out(self):
        self.assertEqual([(file, ast.dump(node)) for file, node in nodes(*LEFT_OUT)], [])

    def test_literals(self):
        for file, node in nodes(ast.Constant):
            self.assertNotIsInstance(node.value, (float, complex), (file, node.lineno))
            if isinstance(node.value, str):
                self.assertNotIn("%", node.value, (file, node.lineno))

    def test_is(self):
        for file, node in nodes(ast.Compare):
            for sign, right in zip(node.ops, node.comparators):
                if isinstance(sign, (ast.Is, ast.IsNot)):
                    self.assertIsInstance(right, ast.Constant, (file, node.lineno))
                    self.assertIn(right.value, (None, True, False), (file, node.lineno))

    def test_gone_through_at_once(self):
        for file, tree in trees():
            at_once = iterated_at_once(tree)
            for node in ast.walk(tree):
                if called(node) in AT_ONCE or called(node) in VIEWS and isinstance(node.func, ast.Attribute):
                    self.assertIn(node, at_once, (file, node.lineno))

    def test_raised_on_the_spot(self):
        for file, node in nodes(ast.Raise):
            if node.exc is not None:
                self.assertIsInstance(node.exc, ast.Call, (file, node.lineno))
                self.assertIsInstance(node.exc.func, ast.Name, (file, node.lineno))

    def test_no_lists_in_lists_at_module_level(self):
        for file, tree in trees():
            for node in tree.body:
                if isinstance(node, ast.Assign):
                    inner = [part for part in ast.walk(node.value) if isinstance(part, (ast.List, ast.Dict))]
                    self.assertLessEqual(len(inner), 1, (file, node.lineno))
                    self.assertEqual(inner, [node.value] if inner else [], (file, node.lineno))


class Methods(unittest.TestCase):
    def test_methods_and_attributes_have_unlike_names(self):
        self.assertEqual(own_methods() & own_attributes(), set())

    def test_own_names_are_no_names_of_plain_values(self):
        self.assertEqual((own_methods() - DUNDERS) & VALUE_NAMES, set())
        self.assertEqual(own_attributes() & VALUE_NAMES, set())

    def test_methods_that_are_called(self):
        for file, node in nodes(ast.Call):
            if isinstance(node.func, ast.Attribute):
                self.assertIn(node.func.attr, METHODS | own_methods(), (file, node.lineno))

    def test_attributes_that_are_read(self):
        for file, node in nodes(ast.Attribute):
            self.assertIn(node.attr, METHODS | own_methods() | own_attributes(), (file, node.lineno))
