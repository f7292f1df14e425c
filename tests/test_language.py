"""The rules of LANGUAGE.md that can be seen in a single file: a net for slips, not the whole law."""

import ast
import builtins
import pathlib
import re
import unittest

PACKAGE = pathlib.Path(__file__).resolve().parent.parent / "turtlehouse"
FILES = sorted(PACKAGE.glob("*.py"))

ALLOWED_BUILTINS = set(
    "len range enumerate zip min max sum abs sorted reversed int str bool bytes list tuple dict set"
    " frozenset isinstance ord repr any all divmod Exception ValueError TypeError KeyError IndexError"
    " LookupError ZeroDivisionError ArithmeticError OverflowError RuntimeError NotImplementedError"
    " AttributeError StopIteration".split()
)
DUNDERS = {"__init__", "__eq__", "__repr__", "__str__", "__len__"}
BARRED_WORDS = re.compile(
    r"\b(type|typing|typing_extensions|enum|Enum|IntEnum|StrEnum|Flag|IntFlag|Generic|Protocol|ABC|ABCMeta"
    r"|namedtuple|NamedTuple|TypedDict|TYPE_CHECKING|abstractmethod)\b|dataclass|overload|contextmanager"
)
BARRED_NODES = (
    ast.With, ast.Match, ast.Global, ast.Nonlocal, ast.Yield, ast.YieldFrom, ast.Await, ast.AsyncFunctionDef,
    ast.AsyncFor, ast.AsyncWith, ast.NamedExpr, ast.GeneratorExp, ast.Div, ast.MatMult, ast.Import, ast.TryStar,
)


def names_bound(tree):
    """Each name that a file binds, with its row."""
    for node in ast.walk(tree):
        if isinstance(node, ast.Name) and isinstance(node.ctx, ast.Store):
            yield node.id, node.lineno
        elif isinstance(node, ast.arg):
            yield node.arg, node.lineno
        elif isinstance(node, (ast.FunctionDef, ast.ClassDef)):
            yield node.name, node.lineno
        elif isinstance(node, ast.Attribute) and isinstance(node.ctx, ast.Store):
            yield node.attr, node.lineno


def top_names(tree):
    """The names that stand at a file's top."""
    for node in tree.body:
        if isinstance(node, (ast.FunctionDef, ast.ClassDef)):
            yield node.name
        elif isinstance(node, ast.Assign):
            for target in node.targets:
                yield target.id


class LanguageTest(unittest.TestCase):
    def each_file(self):
        for path in FILES:
            text = path.read_text(encoding="utf-8")
            yield path.name, text, ast.parse(text)

    def test_files(self):
        self.assertTrue(FILES)
        for path in PACKAGE.rglob("*"):
            if "__pycache__" not in path.parts:
                self.assertRegex(path.name, r"^([a-z0-9_]+\.py)$")

    def test_signs_and_sizes(self):
        for file, text, tree in self.each_file():
            rows = text.split("\n")
            self.assertLessEqual(len(rows), 400, file)
            self.assertLessEqual(max(len(row) for row in rows), 120, file)
            self.assertTrue(all(sign == "\n" or " " <= sign <= "~" for sign in text), file)
            self.assertIsNone(BARRED_WORDS.search(text), file)
            for node in ast.walk(tree):
                if isinstance(node, ast.FunctionDef):
                    self.assertLessEqual(node.end_lineno - node.lineno + 1, 40, node.name)
                    self.assertFalse(node.decorator_list, node.name)
                    self.assertIsNone(node.args.vararg or node.args.kwarg, node.name)

    def test_nodes(self):
        for file, text, tree in self.each_file():
            for node in ast.walk(tree):
                where = (file, getattr(node, "lineno", None))
                self.assertNotIsInstance(node, BARRED_NODES, where)
                if isinstance(node, ast.Constant):
                    self.assertNotIsInstance(node.value, (float, complex), where)
                    self.assertFalse(isinstance(node.value, str) and "%" in node.value, where)
                if isinstance(node, (ast.For, ast.While)):
                    self.assertFalse(node.orelse, where)
                if isinstance(node, ast.Compare):
                    for sign, right in zip(node.ops, node.comparators):
                        if isinstance(sign, (ast.Is, ast.IsNot)):
                            self.assertTrue(isinstance(right, ast.Constant), where)

    def test_names(self):
        for file, text, tree in self.each_file():
            for name, row in names_bound(tree):
                if name not in DUNDERS:
                    self.assertRegex(name, r"^[A-Za-z][A-Za-z0-9_]*$", (file, row))
                self.assertNotIn(name, dir(builtins), (file, row))
            for node in ast.walk(tree):
                if isinstance(node, ast.Name) and node.id in dir(builtins):
                    self.assertIn(node.id, ALLOWED_BUILTINS, (file, node.lineno))
            tops = list(top_names(tree))
            self.assertEqual(len(tops), len(set(tops)), file)

    def test_imports(self):
        for file, text, tree in self.each_file():
            for node in ast.walk(tree):
                if isinstance(node, ast.ImportFrom) and node.module != "__future__":
                    self.assertIn(node, tree.body, file)
                    self.assertEqual(node.level, 0, file)
                    self.assertRegex(node.module, r"^turtlehouse\.[a-z_]+$", file)
                    source = (PACKAGE / (node.module.split(".")[1] + ".py")).read_text(encoding="utf-8")
                    for alias in node.names:
                        self.assertIn(alias.name, list(top_names(ast.parse(source))))


if __name__ == "__main__":
    unittest.main()
