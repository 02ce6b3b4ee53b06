"""The package keeps to the part of Python that is set for it.

Looked at are the rules that can be seen row by row or name by name; the rest is for readers.
"""

import ast
import builtins
import pathlib
import re
import unittest

ROOT = pathlib.Path(__file__).resolve().parent.parent
PACKAGE = ROOT / "sidecut"

OWN_NAMES = set("""
    len range enumerate zip min max sum abs sorted reversed int str bool bytes list tuple dict set
    isinstance ord repr any all divmod Exception ValueError TypeError KeyError IndexError
    LookupError ZeroDivisionError ArithmeticError OverflowError RuntimeError NotImplementedError
    AttributeError StopIteration
""".split())

WORDS_OUT = re.compile(r"""\b(type|typing|typing_extensions|enum|Enum|IntEnum|StrEnum|Flag|IntFlag
    |Generic|Protocol|ABC|ABCMeta|namedtuple|NamedTuple|TypedDict|TYPE_CHECKING|abstractmethod)\b
    |dataclass|overload|contextmanager""", re.VERBOSE)

NODES_OUT = (ast.With, ast.Match, ast.Global, ast.Nonlocal, ast.Yield, ast.YieldFrom, ast.Await,
             ast.AsyncFunctionDef, ast.AsyncFor, ast.AsyncWith, ast.GeneratorExp, ast.NamedExpr,
             ast.Div, ast.MatMult, ast.Import)

# Of L25, and what L24 lets a kept set do.
VALUE_METHODS = set("""
    append clear copy count endswith extend find get index insert isalnum isalpha isdigit islower
    isspace isupper items join keys ljust lower lstrip partition pop remove replace reverse rfind
    rjust rpartition rsplit rstrip setdefault split splitlines startswith strip update upper values
    zfill bit_length sort add discard isascii isdecimal removeprefix removesuffix
""".split())

WALKED_AT_ONCE = ("zip", "enumerate", "reversed", "range")
WALKERS = ("list", "tuple", "dict", "sorted", "sum", "any", "all", "enumerate", "zip", "min", "max")

METHODS = {"__init__", "__eq__", "__repr__", "__str__", "__len__"}


def files():
    return sorted(PACKAGE.rglob("*.py"))


def trees():
    return [(file, ast.parse(file.read_text(encoding="ascii"))) for file in files()]


def bound_names(tree):
    """Every name that the file gives, parameters and defs too."""
    for node in ast.walk(tree):
        if isinstance(node, ast.Name) and isinstance(node.ctx, ast.Store):
            yield node.id
        elif isinstance(node, ast.arg):
            yield node.arg
        elif isinstance(node, (ast.FunctionDef, ast.ClassDef)):
            yield node.name
        elif isinstance(node, ast.ExceptHandler) and node.name:
            yield node.name


def called_name(node):
    """The plain name that a call is by, or None."""
    if isinstance(node, ast.Call) and isinstance(node.func, ast.Name):
        return node.func.id
    return None


def walked_at_once(tree):
    """The nodes that stand where something is walked on the spot."""
    for node in ast.walk(tree):
        if isinstance(node, (ast.For, ast.comprehension)):
            yield node.iter
        elif called_name(node) in WALKERS + ("reversed", "len"):
            yield from node.args[:1] if called_name(node) != "zip" else node.args


class Files(unittest.TestCase):
    def test_there_is_something_to_look_at(self):
        self.assertIn(PACKAGE / "__init__.py", files())

    def test_nothing_else_lies_in_the_package(self):
        for thing in PACKAGE.rglob("*"):
            if "__pycache__" not in thing.parts:
                self.assertEqual(thing.suffix, ".py", thing)
                self.assertRegex(thing.stem, r"\A([a-z][a-z0-9_]*|__init__)\Z")

    def test_rows_and_signs(self):
        for file in files():
            text = file.read_bytes().decode("ascii")
            self.assertLessEqual(len(text.split("\n")) - 1, 400, file)
            for number, row in enumerate(text.split("\n"), start=1):
                self.assertLessEqual(len(row), 120, (file, number))
                self.assertRegex(row, r"\A[ -~]*\Z", (file, number))
                self.assertIsNone(WORDS_OUT.search(row), (file, number))


class Rows(unittest.TestCase):
    def test_no_part_of_python_that_is_out(self):
        for file, tree in trees():
            for node in ast.walk(tree):
                self.assertNotIsInstance(node, NODES_OUT, (file, getattr(node, "lineno", 0)))
                if isinstance(node, ast.Constant):
                    self.assertNotIsInstance(node.value, (float, complex), (file, node.lineno))
                if isinstance(node, ast.Constant) and isinstance(node.value, str):
                    self.assertNotIn("%", node.value, (file, node.lineno))
                if isinstance(node, (ast.For, ast.While)):
                    self.assertEqual(node.orelse, [], (file, node.lineno))

    def test_only_the_package_is_drawn_from(self):
        for file, tree in trees():
            for node in ast.walk(tree):
                if isinstance(node, ast.ImportFrom):
                    self.assertEqual(node.level, 0, (file, node.lineno))
                    self.assertRegex(node.module, r"\Asidecut\.", (file, node.lineno))
                    self.assertIn(node, tree.body, (file, node.lineno))

    def test_defs(self):
        for file, tree in trees():
            for node in ast.walk(tree):
                if isinstance(node, (ast.FunctionDef, ast.ClassDef)):
                    self.assertEqual(node.decorator_list, [], (file, node.lineno))
                if isinstance(node, ast.FunctionDef):
                    self.assertLessEqual(node.end_lineno - node.lineno + 1, 40, (file, node.name))
                    self.assertIsNone(node.args.vararg, (file, node.name))
                    self.assertIsNone(node.args.kwarg, (file, node.name))
                    self.assertEqual(node.args.posonlyargs, [], (file, node.name))
                if isinstance(node, ast.ClassDef):
                    self.assertIn(node, tree.body, (file, node.name))
                    self.assertLessEqual(len(node.bases), 1, (file, node.name))

    def test_names(self):
        for file, tree in trees():
            for name in bound_names(tree):
                if name not in METHODS:
                    self.assertRegex(name, r"\A[A-Za-z]", file)
                    self.assertFalse(hasattr(builtins, name), (file, name))

    def test_of_pythons_own_names_those_that_are_listed(self):
        for file, tree in trees():
            for node in ast.walk(tree):
                if isinstance(node, ast.Name) and hasattr(builtins, node.id):
                    self.assertIn(node.id, OWN_NAMES, (file, node.lineno))

    def test_nothing_within_a_def_is_called_like_an_import_or_a_class(self):
        for file, tree in trees():
            drawn = {each.asname or each.name for node in tree.body if isinstance(node, ast.ImportFrom)
                     for each in node.names}
            drawn |= {node.name for node in tree.body if isinstance(node, ast.ClassDef)}
            for node in ast.walk(tree):
                if isinstance(node, ast.arg):
                    self.assertNotIn(node.arg, drawn, (file, node.lineno))
                if isinstance(node, ast.Name) and isinstance(node.ctx, ast.Store):
                    self.assertNotIn(node.id, drawn, (file, node.lineno))

    def test_at_the_top_each_name_once_and_plain_values_alone(self):
        for file, tree in trees():
            names = []
            for node in tree.body:
                if isinstance(node, ast.Assign):
                    self.assertEqual(len(node.targets), 1, (file, node.lineno))
                    names.append(node.targets[0].id)
                    for part in ast.walk(node.value):
                        self.assertNotIsInstance(part, (ast.Call, ast.ListComp, ast.DictComp, ast.Set),
                                                 (file, node.lineno))
                elif isinstance(node, ast.ImportFrom):
                    names += [each.asname or each.name for each in node.names]
                elif isinstance(node, (ast.FunctionDef, ast.ClassDef)):
                    names.append(node.name)
                else:
                    self.assertIsInstance(node, ast.Expr, (file, node.lineno))
                    self.assertIsInstance(node.value, ast.Constant, (file, node.lineno))
            self.assertEqual(len(names), len(set(names)), file)

    def test_names_are_drawn_from_the_file_that_defines_them_and_none_in_a_ring(self):
        drawn = {}
        for file, tree in trees():
            drawn[f"sidecut.{file.stem}"] = {node.module for node in tree.body
                                             if isinstance(node, ast.ImportFrom)}
            for node in tree.body:
                if isinstance(node, ast.ImportFrom):
                    source = ast.parse((ROOT / (node.module.replace(".", "/") + ".py")).read_text())
                    defined = {each.name for each in source.body if hasattr(each, "name")}
                    defined |= {name.id for each in source.body if isinstance(each, ast.Assign)
                                for name in each.targets}
                    for each in node.names:
                        self.assertIn(each.name, defined, (file, node.lineno))
        while drawn:
            free = [name for name, sources in drawn.items() if not sources & drawn.keys()]
            self.assertTrue(free, sorted(drawn))
            for name in free:
                del drawn[name]

    def test_is_stands_beside_none_true_and_false_alone(self):
        for file, tree in trees():
            for node in ast.walk(tree):
                if isinstance(node, ast.Compare):
                    for sign, other in zip(node.ops, node.comparators):
                        if isinstance(sign, (ast.Is, ast.IsNot)):
                            self.assertIsInstance(other, ast.Constant, (file, node.lineno))
                            self.assertIn(other.value, (None, True, False), (file, node.lineno))

    def test_methods_are_those_that_are_listed(self):
        for file, tree in trees():
            for node in ast.walk(tree):
                if isinstance(node, ast.Call) and isinstance(node.func, ast.Attribute):
                    self.assertIn(node.func.attr, VALUE_METHODS | METHODS, (file, node.lineno))

    def test_what_is_walked_is_walked_at_once(self):
        for file, tree in trees():
            at_once = list(walked_at_once(tree))
            for node in ast.walk(tree):
                is_method = isinstance(node, ast.Call) and isinstance(node.func, ast.Attribute)
                if called_name(node) in WALKED_AT_ONCE or (
                        is_method and node.func.attr in ("items", "keys", "values")):
                    self.assertIn(node, at_once, (file, node.lineno))
