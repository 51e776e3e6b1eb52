"""The rules of the language that are plainly seen in the package's files."""

import ast
import builtins
import re
import unittest
from pathlib import Path

FOLDER = Path(__file__).resolve().parent.parent / "eachgreatest"
BARRED_WORDS = ("type typing typing_extensions enum Enum IntEnum StrEnum Flag IntFlag Generic "
                "Protocol ABC ABCMeta namedtuple NamedTuple TypedDict TYPE_CHECKING "
                "abstractmethod").split()
BARRED_PARTS = ("dataclass", "overload", "contextmanager")
BUILTINS = ("len range enumerate zip min max sum abs sorted reversed int str bool bytes list tuple "
            "dict set frozenset isinstance ord repr any all divmod Exception ValueError TypeError "
            "KeyError IndexError LookupError ZeroDivisionError ArithmeticError OverflowError "
            "RuntimeError NotImplementedError AttributeError StopIteration NotImplemented "
            "super property staticmethod classmethod").split()
BARRED_NODES = (ast.Global, ast.AsyncFunctionDef, ast.AsyncFor, ast.AsyncWith, ast.Await, ast.Import,
                ast.Div)


def trees():
    for path in sorted(FOLDER.glob("*.py")):
        yield path, ast.parse(path.read_text(encoding="ascii"))


def bound_names(tree):
    for node in ast.walk(tree):
        if isinstance(node, (ast.FunctionDef, ast.ClassDef)):
            yield node.name
        elif isinstance(node, ast.arg):
            yield node.arg
        elif isinstance(node, ast.Name) and isinstance(node.ctx, ast.Store):
            yield node.id


class LanguageTest(unittest.TestCase):
    def test_files(self):
        for path in FOLDER.iterdir():
            if path.name != "__pycache__":
                self.assertRegex(path.name, r"^([a-z][a-z0-9_]*|__init__)\.py$")

    def test_characters_and_size(self):
        for path in FOLDER.glob("*.py"):
            text = path.read_bytes().decode("ascii")
            self.assertRegex(text, r"\A[ -~\n]*\Z")
            rows = text.split("\n")
            self.assertLessEqual(len(rows), 400, path)
            self.assertLessEqual(max(len(row) for row in rows), 120, path)

    def test_barred_words(self):
        for path in FOLDER.glob("*.py"):
            text = path.read_text()
            for word in BARRED_WORDS:
                self.assertIsNone(re.search(rf"\b{word}\b", text), (path, word))
            for part in BARRED_PARTS:
                self.assertNotIn(part, text, path)

    def test_imports(self):
        for path, tree in trees():
            for node in ast.walk(tree):
                if isinstance(node, ast.ImportFrom):
                    self.assertEqual(node.level, 0, path)
                    self.assertRegex(node.module, r"^eachgreatest\.[a-z]+$")

    def test_functions_are_short(self):
        for path, tree in trees():
            for node in ast.walk(tree):
                if isinstance(node, ast.FunctionDef):
                    self.assertLessEqual(node.end_lineno - node.lineno + 1, 40, (path, node.name))

    def test_names(self):
        allowed = ("__init__",)
        for path, tree in trees():
            for name in bound_names(tree):
                if name not in allowed:
                    self.assertFalse(name.startswith("_"), (path, name))
                    self.assertNotIn(name, dir(builtins), path)

    def test_no_attribute_has_the_name_of_a_method(self):
        methods, attributes = set(), set()
        for path, tree in trees():
            for node in ast.walk(tree):
                if isinstance(node, ast.ClassDef):
                    methods |= {part.name for part in node.body if isinstance(part, ast.FunctionDef)}
                elif isinstance(node, ast.Attribute) and isinstance(node.ctx, ast.Store):
                    attributes.add(node.attr)
        self.assertEqual(methods & attributes, set())

    def test_builtins(self):
        for path, tree in trees():
            for node in ast.walk(tree):
                if isinstance(node, ast.Name) and node.id in dir(builtins):
                    self.assertIn(node.id, BUILTINS, path)

    def test_statements_and_values(self):
        for path, tree in trees():
            for node in ast.walk(tree):
                self.assertNotIsInstance(node, BARRED_NODES, path)
                if isinstance(node, ast.Constant):
                    self.assertNotIsInstance(node.value, (float, complex), path)
                    self.assertNotIn("%", str(node.value), path)


if __name__ == "__main__":
    unittest.main()
