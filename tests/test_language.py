"""The package keeps to the part of Python that is set for it.

Looked at are the rules that can be seen row by row or name by name; the rest is for readers.
"""

import ast
import builtins
import pathlib
import re
import unittest

ROOT = pathlib.Path(__file__).resolve().parent.parent
PACKAGE = ROOT / "sidecut"

OWN_NAMES = set("""
    len range enumerate zip min max sum abs sorted reversed int str bool bytes list tuple dict set
    isinstance ord repr any all divmod Exception ValueError TypeError KeyError IndexError
    LookupError ZeroDivisionError ArithmeticError OverflowError RuntimeError NotImplementedError
    AttributeError StopIteration
""".split())

WORDS_OUT = re.compile(r"""\b(type|typing|typing_extensions|enum|Enum|IntEnum|StrEnum|Flag|IntFlag
    |Generic|Protocol|ABC|ABCMeta|namedtuple|NamedTuple|TypedDict|TYPE_CHECKING|abstractmethod)\b
    |dataclass|overload|contextmanager""", re.VERBOSE)

NODES_OUT = (ast.With, ast.Match, ast.Global, ast.Nonlocal, ast.Yield, ast.YieldFrom, ast.Await,
             ast.AsyncFunctionDef, ast.AsyncFor, ast.AsyncWith, ast.GeneratorExp, ast.NamedExpr,
             ast.Div, ast.MatMult, ast.Import)

METHODS = {"__init__", "__eq__", "__repr__", "__str__", "__len__"}


def files():
    return sorted(PACKAGE.rglob("*.py"))


def trees():
    return [(file, ast.parse(file.read_text(encoding="ascii"))) for file in files()]


def bound_names(tree):
    """Every name that the file gives, parameters and defs too."""
    for node in ast.walk(tree):
        if isinstance(node, ast.Name) and isinstance(node.ctx, ast.Store):
            yield node.id
        elif isinstance(node, ast.arg):
            yield node.arg
        elif isinstance(node, (ast.FunctionDef, ast.ClassDef)):
            yield node.name
        elif isinstance(node, ast.ExceptHandler) and node.name:
            yield node.name


class Files(unittest.TestCase):
    def test_there_is_something_to_look_at(self):
        self.assertIn(PACKAGE / "__init__.py", files())

    def test_nothing_else_lies_in_the_package(self):
        for thing in PACKAGE.rglob("*"):
            if "__pycache__" not in thing.parts:
                self.assertEqual(thing.suffix, ".py", thing)
                self.assertRegex(thing.stem, r"\A([a-z][a-z0-9_]*|__init__)\Z")

    def test_rows_and_signs(self):
        for file in files():
            text = file.read_bytes().decode("ascii")
            self.assertLessEqual(len(text.split("\n")) - 1, 400, file)
            for number, row in enumerate(text.split("\n"), start=1):
                self.assertLessEqual(len(row), 120, (file, number))
                self.assertRegex(row, r"\A[ -~]*\Z", (file, number))
                self.assertIsNone(WORDS_OUT.search(row), (file, number))


class Rows(unittest.TestCase):
    def test_no_part_of_python_that_is_out(self):
        for file, tree in trees():
            for node in ast.walk(tree):
                self.assertNotIsInstance(node, NODES_OUT, (file, getattr(node, "lineno", 0)))
                if isinstance(node, ast.Constant):
                    self.assertNotIsInstance(node.value, (float, complex), (file, node.lineno))
                if isinstance(node, ast.Constant) and isinstance(node.value, str):
                    self.assertNotIn("%", node.value, (file, node.lineno))
                if isinstance(node, (ast.For, ast.While)):
                    self.assertEqual(node.orelse, [], (file, node.lineno))

    def test_only_the_package_is_drawn_from(self):
        for file, tree in trees():
            for node in ast.walk(tree):
                if isinstance(node, ast.ImportFrom):
                    self.assertEqual(node.level, 0, (file, node.lineno))
                    self.assertRegex(node.module, r"\Asidecut\.", (file, node.lineno))
                    self.assertIn(node, tree.body, (file, node.lineno))

    def test_defs(self):
        for file, tree in trees():
            for node in ast.walk(tree):
                if isinstance(node, (ast.FunctionDef, ast.ClassDef)):
                    self.assertEqual(node.decorator_list, [], (file, node.lineno))
                if isinstance(node, ast.FunctionDef):
                    self.assertLessEqual(node.end_lineno - node.lineno + 1, 40, (file, node.name))
                    self.assertIsNone(node.args.vararg, (file, node.name))
                    self.assertIsNone(node.args.kwarg, (file, node.name))
                    self.assertEqual(node.args.posonlyargs, [], (file, node.name))
                if isinstance(node, ast.ClassDef):
                    self.assertIn(node, tree.body, (file, node.name))
                    self.assertLessEqual(len(node.bases), 1, (file, node.name))

    def test_names(self):
        for file, tree in trees():
            for name in bound_names(tree):
                if name not in METHODS:
                    self.assertRegex(name, r"\A[A-Za-z]", file)
                    self.assertFalse(hasattr(builtins, name), (file, name))

    def test_of_pythons_own_names_those_that_are_listed(self):
        for file, tree in trees():
            for node in ast.walk(tree):
                if isinstance(node, ast.Name) and hasattr(builtins, node.id):
                    self.assertIn(node.id, OWN_NAMES, (file, node.lineno))
