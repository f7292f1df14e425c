"""The rules of LANGUAGE.md that can be seen in a single file: a net for slips, not the whole law."""

import ast
import builtins
import pathlib
import re
import unittest

PACKAGE = pathlib.Path(__file__).resolve().parent.parent / "turtlehouse"
FILES = sorted(PACKAGE.glob("*.py"))

ALLOWED_BUILTINS = set(
    "len range enumerate zip min max sum abs sorted reversed int str bool bytes list tuple dict set"
    " frozenset isinstance ord repr any all divmod Exception ValueError TypeError KeyError IndexError"
    " LookupError ZeroDivisionError ArithmeticError OverflowError RuntimeError NotImplementedError"
    " AttributeError StopIteration".split()
)
DUNDERS = {"__init__", "__eq__", "__repr__", "__str__", "__len__"}
BARRED_WORDS = re.compile(
    r"\b(type|typing|typing_extensions|enum|Enum|IntEnum|StrEnum|Flag|IntFlag|Generic|Protocol|ABC|ABCMeta"
    r"|namedtuple|NamedTuple|TypedDict|TYPE_CHECKING|abstractmethod)\b|dataclass|overload|contextmanager"
)
BARRED_NODES = (
    ast.With, ast.Match, ast.Global, ast.Nonlocal, ast.Yield, ast.YieldFrom, ast.Await, ast.AsyncFunctionDef,
    ast.AsyncFor, ast.AsyncWith, ast.NamedExpr, ast.GeneratorExp, ast.Div, ast.MatMult, ast.Import, ast.TryStar,
)

# Methods of Python's own values, those of L25 that the package has a use for.
ALLOWED_METHODS = set(
    "append clear copy count endswith extend find get index insert isalnum isalpha isdigit islower isspace isupper"
    " items join keys ljust lower lstrip partition pop remove replace reverse rfind rjust rpartition rsplit rstrip"
    " setdefault split splitlines startswith strip update upper values zfill bit_length".split()
)
BARRED_VALUES = set(
    "items keys values pop update append clear extend insert remove reverse setdefault sort args encode decode hex"
    " fromhex format".split()
)


def names_bound(tree):
    """Each name that a file binds, with its row."""
    for node in ast.walk(tree):
        if isinstance(node, ast.Name) and isinstance(node.ctx, ast.Store):
            yield node.id, node.lineno
        elif isinstance(node, ast.arg):
            yield node.arg, node.lineno
        elif isinstance(node, (ast.FunctionDef, ast.ClassDef)):
            yield node.name, node.lineno
        elif isinstance(node, ast.Attribute) and isinstance(node.ctx, ast.Store):
            yield node.attr, node.lineno


def top_names(tree):
    """The names that stand at a file's top."""
    for node in tree.body:
        if isinstance(node, (ast.FunctionDef, ast.ClassDef)):
            yield node.name
        elif isinstance(node, ast.Assign):
            for target in node.targets:
                yield target.id


class LanguageTest(unittest.TestCase):
    def each_file(self):
        for path in FILES:
            text = path.read_text(encoding="utf-8")
            yield path.name, text, ast.parse(text)

    def test_files(self):
        self.assertTrue(FILES)
        for path in PACKAGE.rglob("*"):
            if "__pycache__" not in path.parts:
                self.assertRegex(path.name, r"^([a-z0-9_]+\.py)$")

    def test_signs_and_sizes(self):
        for file, text, tree in self.each_file():
            rows = text.split("\n")
            self.assertLessEqual(len(rows), 400, file)
            self.assertLessEqual(max(len(row) for row in rows), 120, file)
            self.assertTrue(all(sign == "\n" or " " <= sign <= "~" for sign in text), file)
            self.assertIsNone(BARRED_WORDS.search(text), file)
            for node in ast.walk(tree):
                if isinstance(node, ast.FunctionDef):
                    self.assertLessEqual(node.end_lineno - node.lineno + 1, 40, node.name)
                    self.assertFalse(node.decorator_list, node.name)
                    self.assertIsNone(node.args.vararg or node.args.kwarg, node.name)

    def test_nodes(self):
        for file, text, tree in self.each_file():
            for node in ast.walk(tree):
                where = (file, getattr(node, "lineno", None))
                self.assertNotIsInstance(node, BARRED_NODES, where)
                if isinstance(node, ast.Constant):
                    self.assertNotIsInstance(node.value, (float, complex), where)
                    self.assertFalse(isinstance(node.value, str) and "%" in node.value, where)
                if isinstance(node, (ast.For, ast.While)):
                    self.assertFalse(node.orelse, where)
                if isinstance(node, ast.Compare):
                    for sign, right in zip(node.ops, node.comparators):
                        if isinstance(sign, (ast.Is, ast.IsNot)):
                            self.assertTrue(isinstance(right, ast.Constant), where)

    def test_names(self):
        for file, text, tree in self.each_file():
            for name, row in names_bound(tree):
                if name not in DUNDERS:
                    self.assertRegex(name, r"^[A-Za-z][A-Za-z0-9_]*$", (file, row))
                self.assertNotIn(name, dir(builtins), (file, row))
            for node in ast.walk(tree):
                if isinstance(node, ast.Name) and node.id in dir(builtins):
                    self.assertIn(node.id, ALLOWED_BUILTINS, (file, node.lineno))
            tops = list(top_names(tree))
            self.assertEqual(len(tops), len(set(tops)), file)

    def test_imports(self):
        for file, text, tree in self.each_file():
            for node in ast.walk(tree):
                if isinstance(node, ast.ImportFrom) and node.module != "__future__":
                    self.assertIn(node, tree.body, file)
                    self.assertEqual(node.level, 0, file)
                    self.assertRegex(node.module, r"^turtlehouse\.[a-z_]+$", file)
                    source = (PACKAGE / (node.module.split(".")[1] + ".py")).read_text(encoding="utf-8")
                    for alias in node.names:
                        self.assertIn(alias.name, list(top_names(ast.parse(source))))

    def test_no_name_of_an_import_is_given_anew(self):
        for file, text, tree in self.each_file():
            drawn = {alias.name for node in tree.body if isinstance(node, ast.ImportFrom) for alias in node.names}
            classes = {node.name for node in tree.body if isinstance(node, ast.ClassDef)}
            for node in ast.walk(tree):
                if isinstance(node, ast.arg):
                    self.assertNotIn(node.arg, drawn | classes, (file, node.lineno))
                if isinstance(node, ast.Name) and isinstance(node.ctx, ast.Store):
                    self.assertNotIn(node.id, drawn | classes, (file, node.lineno))

    def test_no_files_draw_from_one_another(self):
        draws = {}
        for file, text, tree in self.each_file():
            rows = [node for node in tree.body if isinstance(node, ast.ImportFrom)]
            draws[file] = {row.module.split(".")[1] + ".py" for row in rows}
            self.assertFalse(file == "__init__.py" and rows)
        while draws:
            free = [file for file in draws if not draws[file] & set(draws)]
            self.assertTrue(free, sorted(draws))
            for file in free:
                del draws[file]

    def test_methods_and_values(self):
        methods, values = set(), set()
        for file, text, tree in self.each_file():
            for node in ast.walk(tree):
                if isinstance(node, ast.ClassDef):
                    self.assertIn(node, tree.body, file)
                    methods.update(row.name for row in node.body if isinstance(row, ast.FunctionDef))
                    rows = [row for row in node.body if not isinstance(row, ast.FunctionDef)]
                    self.assertTrue(all(isinstance(row, ast.Expr) for row in rows), (file, node.name))
                if isinstance(node, ast.Attribute) and isinstance(node.ctx, ast.Store):
                    values.add(node.attr)
        self.assertFalse(methods & values)
        self.assertFalse(values & (BARRED_VALUES | {"play", "take_back", "played", "left", "drawn", "place"}))
        self.assertFalse((methods | values) & (set(dir(str)) | set(dir(list)) | set(dir(dict)) | set(dir(int)))
                         - DUNDERS - {"count", "index"})
        for file, text, tree in self.each_file():
            called = {node.func for node in ast.walk(tree) if isinstance(node, ast.Call)}
            for node in ast.walk(tree):
                if isinstance(node, ast.Attribute) and node in called:
                    self.assertIn(node.attr, methods | ALLOWED_METHODS, (file, node.lineno))
                elif isinstance(node, ast.Attribute):
                    self.assertIn(node.attr, values, (file, node.lineno))

    def test_tops_are_only_read(self):
        for file, text, tree in self.each_file():
            for node in tree.body:
                if isinstance(node, ast.Assign) and isinstance(node.value, (ast.List, ast.Dict)):
                    parts = node.value.elts if isinstance(node.value, ast.List) else node.value.values
                    self.assertFalse(any(isinstance(part, (ast.List, ast.Dict)) for part in parts), file)


if __name__ == "__main__":
    unittest.main()
