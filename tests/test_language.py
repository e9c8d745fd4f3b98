"""The rules of LANGUAGE.md that can be read off the package's files by simple means."""

import ast
import builtins
import pathlib
import re
import unittest

PACKAGE = pathlib.Path(__file__).resolve().parent.parent / "keptranges"
BARRED_WORDS = re.compile(
    r"\b(type|typing|typing_extensions|enum|Enum|IntEnum|StrEnum|Flag|IntFlag|Generic|Protocol|ABC|ABCMeta"
    r"|namedtuple|NamedTuple|TypedDict|TYPE_CHECKING|abstractmethod)\b|dataclass|overload|contextmanager"
)
ALLOWED_BUILTINS = set(
    "len range enumerate zip min max sum abs sorted reversed int str bool bytes list tuple dict set frozenset"
    " isinstance ord repr any all divmod Exception ValueError TypeError KeyError IndexError LookupError"
    " ZeroDivisionError ArithmeticError OverflowError RuntimeError NotImplementedError".split()
)
BUILTINS = {name for name in dir(builtins) if not name.startswith("_")}
BARRED_NODES = (
    ast.Global, ast.AsyncFunctionDef, ast.AsyncFor, ast.AsyncWith, ast.Await, ast.Import, ast.Div,
)


def package_files():
    return sorted(path for path in PACKAGE.rglob("*") if "__pycache__" not in path.parts)


def trees():
    for path in package_files():
        yield path, ast.parse(path.read_text(encoding="utf-8"))


def bound_names(node):
    """The names that one node binds."""
    if isinstance(node, (ast.FunctionDef, ast.ClassDef)):
        return [node.name]
    if isinstance(node, ast.arg):
        return [node.arg]
    if isinstance(node, ast.Name) and isinstance(node.ctx, ast.Store):
        return [node.id]
    if isinstance(node, ast.Attribute) and isinstance(node.ctx, ast.Store):
        return [node.attr]
    return []


class LanguageTest(unittest.TestCase):
    def test_files(self):
        for path in package_files():
            self.assertRegex(path.name, r"^[a-z0-9_]+\.py$")
        self.assertTrue((PACKAGE / "__init__.py").is_file())

    def test_characters_and_sizes(self):
        for path in package_files():
            text = path.read_text(encoding="utf-8")
            self.assertNotRegex(text, r"[^\n -~]", path)
            self.assertLessEqual(len(text.splitlines()), 400, path)
            self.assertLessEqual(max(map(len, text.splitlines())), 120, path)
            self.assertIsNone(BARRED_WORDS.search(text), path)

    def test_functions_are_small_and_plain(self):
        for path, tree in trees():
            for node in ast.walk(tree):
                if isinstance(node, ast.FunctionDef):
                    self.assertLessEqual(node.end_lineno - node.lineno + 1, 40, node.name)
                    self.assertEqual(node.args.posonlyargs, [], node.name)

    def test_imports(self):
        for path, tree in trees():
            for node in ast.walk(tree):
                if isinstance(node, ast.ImportFrom):
                    self.assertIn(node, tree.body)
                    self.assertEqual(node.level, 0)
                    self.assertTrue(node.module.startswith("keptranges."), path)

    def test_nodes_and_literals(self):
        for path, tree in trees():
            for node in ast.walk(tree):
                self.assertNotIsInstance(node, BARRED_NODES)
                if isinstance(node, ast.Constant):
                    self.assertNotIsInstance(node.value, (float, complex))
                    self.assertNotIn("%", str(node.value))

    def test_names(self):
        for path, tree in trees():
            for node in ast.walk(tree):
                for name in bound_names(node):
                    self.assertTrue(name == "__init__" or not name.startswith("_"), name)
                    if not isinstance(node, ast.Attribute):
                        self.assertNotIn(name, BUILTINS)
                if isinstance(node, ast.Name) and node.id in BUILTINS:
                    self.assertIn(node.id, ALLOWED_BUILTINS, path)

    def test_no_name_is_a_method_and_an_attribute(self):
        methods, attributes = set(), set()
        for path, tree in trees():
            for node in ast.walk(tree):
                if isinstance(node, ast.ClassDef):
                    methods |= {part.name for part in node.body if isinstance(part, ast.FunctionDef)}
                if isinstance(node, ast.Attribute) and isinstance(node.ctx, ast.Store):
                    attributes.add(node.attr)
        self.assertEqual(methods & attributes, set())

    def test_imported_names_and_classes_keep_their_meaning(self):
        for path, tree in trees():
            fixed = {name.name for node in tree.body if isinstance(node, ast.ImportFrom) for name in node.names}
            fixed |= {node.name for node in tree.body if isinstance(node, ast.ClassDef)}
            for node in ast.walk(tree):
                if isinstance(node, (ast.arg, ast.Name)):
                    self.assertFalse(fixed & set(bound_names(node)), path)

    def test_no_two_files_import_from_each_other(self):
        above = {
            path.stem: {node.module.split(".")[1] for node in tree.body if isinstance(node, ast.ImportFrom)}
            for path, tree in trees()
        }
        while above:
            free = {name for name, needed in above.items() if not needed & set(above)}
            self.assertTrue(free, above)
            above = {name: needed for name, needed in above.items() if name not in free}
