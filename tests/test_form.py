"""The form of the package's files: those rules of the language that can be read off a file.

The name of each test ends with the rules of which it holds a part.
"""

import ast
import pathlib
import re
import unittest

TOP = pathlib.Path(__file__).resolve().parent.parent
PACKAGE = TOP / "lockstretch"
FILES = sorted(path for path in PACKAGE.rglob("*") if path.is_file() and "__pycache__" not in path.parts)

NODES = """
Module Expr Assign AugAssign AnnAssign If While For Return Break Continue Pass Raise Try ExceptHandler Assert Delete
FunctionDef ClassDef Lambda arguments arg keyword ImportFrom alias Load Store Del Constant Name Attribute Subscript
Slice Starred Call Tuple List Dict Set ListComp DictComp SetComp comprehension IfExp BoolOp And Or UnaryOp Not USub
Invert UAdd BinOp Add Sub Mult FloorDiv Mod Pow LShift RShift BitAnd BitOr BitXor Compare Eq NotEq Lt LtE Gt GtE
Is IsNot In NotIn JoinedStr FormattedValue
""".split()
WORDS = re.compile(
    r"\b(type|typing|typing_extensions|enum|Enum|IntEnum|StrEnum|Flag|IntFlag|Generic|Protocol|ABC|ABCMeta"
    r"|namedtuple|NamedTuple|TypedDict|TYPE_CHECKING|abstractmethod)\b|dataclass|overload|contextmanager"
)
BUILT_IN = """
len range enumerate zip min max sum abs sorted reversed int str bool bytes list tuple dict set frozenset isinstance
ord repr any all divmod Exception ValueError TypeError KeyError IndexError LookupError ZeroDivisionError
ArithmeticError OverflowError RuntimeError NotImplementedError AttributeError StopIteration object
""".split()
PLAIN = re.compile(r"[A-Za-z][A-Za-z0-9_]*")
SPECIAL = ("__init__", "__eq__", "__repr__", "__str__", "__len__")


def bound_names(tree):
    """Every name that the file gives, wherever it does."""
    for node in ast.walk(tree):
        if isinstance(node, (ast.FunctionDef, ast.ClassDef)):
            yield node.name
        elif isinstance(node, ast.arg):
            yield node.arg
        elif isinstance(node, ast.Name) and isinstance(node.ctx, ast.Store):
            yield node.id
        elif isinstance(node, ast.alias):
            yield node.asname or node.name
        elif isinstance(node, ast.ExceptHandler) and node.name:
            yield node.name


def is_single(node):
    return isinstance(node, ast.Constant) and (node.value is None or isinstance(node.value, bool))


class FormTest(unittest.TestCase):
    def each_tree(self):
        for path in FILES:
            yield path, ast.parse(path.read_text(encoding="ascii"))

    def each_node(self, *kinds):
        for path, tree in self.each_tree():
            for node in ast.walk(tree):
                if isinstance(node, kinds):
                    yield f"{path.name}:{getattr(node, 'lineno', 0)}", node

    def test_files_l1_l14(self):
        self.assertIn(PACKAGE / "__init__.py", FILES)
        for path in FILES:
            self.assertRegex(path.name, r"^([a-z][a-z0-9_]*|__init__|__main__)\.py$")

    def test_signs_words_and_sizes_l10_l14_l17(self):
        for path in FILES:
            rows = path.read_text(encoding="utf-8").split("\n")
            self.assertLessEqual(len(rows), 401, path.name)
            for number, row in enumerate(rows, start=1):
                place = f"{path.name}:{number}"
                self.assertRegex(row, r"^[ -~]{0,120}$", place)
                self.assertIsNone(WORDS.search(row), place)

    def test_defs_have_at_most_forty_lines_l10(self):
        for place, node in self.each_node(ast.FunctionDef):
            self.assertLessEqual(node.end_lineno - node.lineno + 1, 40, place)

    def test_only_the_statements_and_expressions_that_are_told_l6_l7(self):
        for place, node in self.each_node(ast.AST):
            self.assertIn(node.__class__.__name__, NODES, place)
        for place, node in self.each_node(ast.For, ast.While):
            self.assertEqual(node.orelse, [], place)
        for place, node in self.each_node(ast.Constant):
            self.assertNotIsInstance(node.value, (float, complex), place)

    def test_imports_l2_l16(self):
        for place, node in self.each_node(ast.ImportFrom):
            self.assertEqual(node.level, 0, place)
            self.assertRegex(node.module, r"^(lockstretch\.[a-z_]+|__future__)$", place)
            self.assertNotIn("*", [alias.name for alias in node.names], place)

    def test_the_top_of_a_file_l3(self):
        told = (ast.ImportFrom, ast.FunctionDef, ast.ClassDef, ast.Assign, ast.AnnAssign)
        for path, tree in self.each_tree():
            self.assertIsNotNone(ast.get_docstring(tree), path.name)
            for node in tree.body[1:]:
                self.assertIsInstance(node, told, f"{path.name}:{node.lineno}")

    def test_defs_and_classes_l4_l5(self):
        for place, node in self.each_node(ast.FunctionDef, ast.ClassDef):
            self.assertEqual(node.decorator_list, [], place)
        for place, node in self.each_node(ast.arguments):
            self.assertEqual((node.posonlyargs, node.vararg, node.kwarg), ([], None, None), place)
        for place, node in self.each_node(ast.ClassDef):
            self.assertLessEqual(len(node.bases), 1, place)
            for part in node.body:
                docstring = isinstance(part, ast.Expr) and isinstance(part.value, ast.Constant)
                self.assertTrue(docstring or isinstance(part, (ast.FunctionDef, ast.Pass)), place)

    def test_names_l8_l12_l15(self):
        for path, tree in self.each_tree():
            given = list(bound_names(tree))
            for name in given:
                self.assertTrue(PLAIN.fullmatch(name) or name in SPECIAL, (path.name, name))
                self.assertNotIn(name, BUILT_IN, path.name)
            for node in ast.walk(tree):
                if isinstance(node, ast.Name):
                    self.assertIn(node.id, given + BUILT_IN, f"{path.name}:{node.lineno}")

    def test_is_stands_beside_none_and_truths_alone_l20(self):
        for place, node in self.each_node(ast.Compare):
            things = [node.left] + node.comparators
            for at, sign in enumerate(node.ops):
                if isinstance(sign, (ast.Is, ast.IsNot)):
                    self.assertTrue(is_single(things[at]) or is_single(things[at + 1]), place)


if __name__ == "__main__":
    unittest.main()
