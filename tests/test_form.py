"""The form of the package's own files, as far as it can be read off them one by one.

Not every rule of the language's document is held here; those that are bear its numbers.
"""

import ast
import builtins
import re
import unittest
from pathlib import Path

PACKAGE = Path(__file__).resolve().parent.parent / "rolldie"
FILES = sorted(path for path in PACKAGE.rglob("*") if path.is_file() and "__pycache__" not in path.parts)

NODES = set(
    "Module ImportFrom alias FunctionDef arguments arg ClassDef Expr Assign AugAssign If While For Return Break"
    " Continue Pass Raise Try ExceptHandler Constant Name Load Store Attribute Subscript Slice List Tuple Dict Set"
    " Call keyword Compare BoolOp And Or Not UnaryOp USub Invert BinOp Add Sub Mult FloorDiv Mod Pow BitAnd BitOr"
    " BitXor LShift RShift Eq NotEq Lt LtE Gt GtE In NotIn Is IsNot IfExp ListComp comprehension JoinedStr"
    " FormattedValue Lambda".split()
)

OWN_NAMES = set(
    "len range enumerate zip min max sum abs sorted reversed int str bool list tuple dict set frozenset isinstance"
    " ord repr any all divmod Exception ValueError TypeError KeyError IndexError LookupError ZeroDivisionError"
    " ArithmeticError OverflowError RuntimeError NotImplementedError AttributeError StopIteration".split()
)

METHODS = set(
    "append clear copy count endswith extend find get index insert isalnum isalpha isdigit islower isspace isupper"
    " items join keys ljust lower lstrip partition pop remove replace reverse rfind rjust rpartition rsplit rstrip"
    " setdefault split splitlines startswith strip update upper values zfill bit_length".split()
)

WORDS = re.compile(
    r"\b(type|typing|typing_extensions|enum|Enum|IntEnum|StrEnum|Flag|IntFlag|Generic|Protocol|ABC|ABCMeta"
    r"|namedtuple|NamedTuple|TypedDict|TYPE_CHECKING|abstractmethod)\b|dataclass|overload|contextmanager"
)


def each_file():
    for path in FILES:
        text = path.read_text(encoding="utf-8")
        yield path.name, text, ast.parse(text)


def bound_names(tree):
    for node in ast.walk(tree):
        if isinstance(node, (ast.FunctionDef, ast.ClassDef)):
            yield node.name
        elif isinstance(node, ast.arg):
            yield node.arg
        elif isinstance(node, ast.Name) and isinstance(node.ctx, ast.Store):
            yield node.id


def imported_names(tree):
    return [alias.name for node in tree.body if isinstance(node, ast.ImportFrom) for alias in node.names]


def drawn_from(tree):
    return [node.module.removeprefix("rolldie.") + ".py" for node in tree.body if isinstance(node, ast.ImportFrom)]


def top_names(tree):
    for node in tree.body:
        if isinstance(node, (ast.FunctionDef, ast.ClassDef)):
            yield node.name
        elif isinstance(node, ast.Assign):
            yield node.targets[0].id


class FormTest(unittest.TestCase):
    def test_files(self):
        self.assertIn(PACKAGE / "__init__.py", FILES)
        for path in FILES:
            self.assertRegex(path.name, r"^[a-z0-9_]+\.py$", "L1, L14")

    def test_signs_words_and_size(self):
        for name, text, tree in each_file():
            self.assertRegex(text, r"\A[\n -~]*\Z", f"{name}: L14")
            self.assertIsNone(WORDS.search(text), f"{name}: L17")
            self.assertLessEqual(len(text.splitlines()), 400, f"{name}: L10")
            self.assertLessEqual(max([len(line) for line in text.splitlines()]), 120, f"{name}: L10")
            for node in ast.walk(tree):
                if isinstance(node, ast.FunctionDef):
                    self.assertLessEqual(node.end_lineno - node.lineno + 1, 40, f"{name}: L10")

    def test_imports(self):
        for name, text, tree in each_file():
            for node in ast.walk(tree):
                if isinstance(node, ast.ImportFrom):
                    self.assertIn(node, tree.body, f"{name}: L2")
                    self.assertEqual(node.level, 0, f"{name}: L2")
                    self.assertRegex(node.module, r"^rolldie\.", f"{name}: L2, L16")
                    self.assertNotIn("*", [alias.name for alias in node.names], f"{name}: L2")

    def test_imports_are_drawn_from_the_file_that_defines_the_name(self):
        trees = {name: tree for name, text, tree in each_file()}
        for name, tree in trees.items():
            for node in tree.body:
                if isinstance(node, ast.ImportFrom):
                    defined = list(top_names(trees[node.module.removeprefix("rolldie.") + ".py"]))
                    for alias in node.names:
                        self.assertIn(alias.name, defined, f"{name}: L16")

    def test_no_two_files_draw_from_one_another(self):
        waiting = {name: set(drawn_from(tree)) for name, text, tree in each_file()}
        while waiting:
            free = [name for name in waiting if not waiting[name] & set(waiting)]
            self.assertNotEqual(free, [], "L16")
            for name in free:
                del waiting[name]

    def test_each_name_is_bound_once_and_none_like_an_import(self):
        for name, text, tree in each_file():
            tops = list(top_names(tree)) + imported_names(tree)
            self.assertEqual(len(tops), len(set(tops)), f"{name}: L15")
            for bound in bound_names(tree):
                self.assertNotIn(bound, imported_names(tree), f"{name}: L15")

    def test_what_a_loop_walks_is_a_name_or_is_walked_on_the_spot(self):
        for name, text, tree in each_file():
            for node in ast.walk(tree):
                if isinstance(node, (ast.Assign, ast.Return)) and isinstance(node.value, ast.Call):
                    called = node.value.func
                    self.assertNotIn(getattr(called, "id", ""), ("zip", "enumerate", "reversed", "range"), f"{name}: L23")
                    self.assertNotIn(getattr(called, "attr", ""), ("items", "keys", "values"), f"{name}: L23")

    def test_statements_and_expressions(self):
        for name, text, tree in each_file():
            for node in ast.walk(tree):
                self.assertIn(node.__class__.__name__, NODES, f"{name}: L6, L7")
                if isinstance(node, ast.Constant):
                    self.assertNotIsInstance(node.value, (float, complex, bytes), f"{name}: L7")
                    self.assertNotIn("%", str(node.value), f"{name}: L27")
                if isinstance(node, ast.Assign):
                    self.assertEqual(len(node.targets), 1, f"{name}: L6")
                if isinstance(node, (ast.FunctionDef, ast.ClassDef)):
                    self.assertEqual(node.decorator_list, [], f"{name}: L4, L5")

    def test_names(self):
        for name, text, tree in each_file():
            for bound in bound_names(tree):
                self.assertNotIn(bound, dir(builtins), f"{name}: L8, L15")
                self.assertRegex(bound, r"^([A-Za-z][A-Za-z0-9_]*|__(init|eq|repr|str|len)__)$", f"{name}: L12")
            for node in ast.walk(tree):
                if isinstance(node, ast.Name) and node.id in dir(builtins):
                    self.assertIn(node.id, OWN_NAMES, f"{name}: L8")

    def test_methods(self):
        own = set()
        for name, text, tree in each_file():
            own.update(bound_names(tree))
        for name, text, tree in each_file():
            for node in ast.walk(tree):
                if isinstance(node, ast.Call) and isinstance(node.func, ast.Attribute):
                    self.assertIn(node.func.attr, METHODS | own | {"__init__"}, f"{name}: L25")


if __name__ == "__main__":
    unittest.main()
