"""The form of the package's files: those rules of the language that can be read off a file.

The name of each test ends with the rules of which it holds a part.
"""

import ast
import builtins
import pathlib
import re
import unittest

TOP = pathlib.Path(__file__).resolve().parent.parent
PACKAGE = TOP / "lockstretch"
FILES = sorted(path for path in PACKAGE.rglob("*") if path.is_file() and "__pycache__" not in path.parts)

NODES = """
Module Expr Assign AugAssign AnnAssign If While For Return Break Continue Pass Raise Try ExceptHandler Assert Delete
FunctionDef ClassDef Lambda arguments arg keyword ImportFrom alias Load Store Del Constant Name Attribute Subscript
Slice Starred Call Tuple List Dict Set ListComp DictComp SetComp comprehension IfExp BoolOp And Or UnaryOp Not USub
Invert UAdd BinOp Add Sub Mult FloorDiv Mod Pow LShift RShift BitAnd BitOr BitXor Compare Eq NotEq Lt LtE Gt GtE
Is IsNot In NotIn JoinedStr FormattedValue
""".split()
WORDS = re.compile(
    r"\b(type|typing|typing_extensions|enum|Enum|IntEnum|StrEnum|Flag|IntFlag|Generic|Protocol|ABC|ABCMeta"
    r"|namedtuple|NamedTuple|TypedDict|TYPE_CHECKING|abstractmethod)\b|dataclass|overload|contextmanager"
)
BUILT_IN = """
len range enumerate zip min max sum abs sorted reversed int str bool bytes list tuple dict set frozenset isinstance
ord repr any all divmod Exception ValueError TypeError KeyError IndexError LookupError ZeroDivisionError
ArithmeticError OverflowError RuntimeError NotImplementedError AttributeError StopIteration object
""".split()
PLAIN = re.compile(r"[A-Za-z][A-Za-z0-9_]*")
SPECIAL = ("__init__", "__eq__", "__repr__", "__str__", "__len__")
UNUSED = """
register mro elements open input version_info with_traceback add_note attrgetter breakpoint builtins compile copyright
credits delattr dir eval exec exit gc getattr globals hasattr help id importlib license locals methodcaller os quit
setattr super type vars sys
""".split()
METHODS = """
append clear copy count endswith extend find get index insert isalnum isalpha isdigit islower isspace isupper items
join keys ljust lower lstrip partition pop remove replace reverse rfind rjust rpartition rsplit rstrip setdefault
split splitlines startswith strip update upper values zfill bit_length title capitalize swapcase casefold center
expandtabs removeprefix removesuffix rindex isascii isdecimal isnumeric istitle isidentifier isprintable
""".split()
WALKED = ("zip", "enumerate", "reversed", "range")
WALKERS = ("list", "tuple", "dict", "sorted", "sum", "any", "all", "enumerate", "zip", "min", "max", "reversed")
KEYWORDS = {
    "sorted": ("key", "reverse"), "min": ("key", "default"), "max": ("key", "default"), "sum": ("start",),
    "enumerate": ("start",), "zip": ("strict",),
}


def bound_names(tree):
    """Every name that the file gives, wherever it does."""
    for node in ast.walk(tree):
        if isinstance(node, (ast.FunctionDef, ast.ClassDef)):
            yield node.name
        elif isinstance(node, ast.arg):
            yield node.arg
        elif isinstance(node, ast.Name) and isinstance(node.ctx, ast.Store):
            yield node.id
        elif isinstance(node, ast.alias):
            yield node.asname or node.name
        elif isinstance(node, ast.ExceptHandler) and node.name:
            yield node.name


def called(node):
    """The name that is called there, of a def or of a method; None, where nothing is."""
    if not isinstance(node, ast.Call):
        return None
    return node.func.id if isinstance(node.func, ast.Name) else node.func.attr


def names_of(tree, *kinds):
    return [node.name for node in tree.body if isinstance(node, kinds)]


def imports_of(tree):
    """Of each name that the file draws in, the file that it draws from."""
    rows = [node for node in tree.body if isinstance(node, ast.ImportFrom)]
    return {alias.name: row.module.split(".")[-1] for row in rows for alias in row.names}


def is_single(node):
    return isinstance(node, ast.Constant) and (node.value is None or isinstance(node.value, bool))


class FormTest(unittest.TestCase):
    def each_tree(self):
        for path in FILES:
            yield path, ast.parse(path.read_text(encoding="ascii"))

    def each_node(self, *kinds):
        for path, tree in self.each_tree():
            for node in ast.walk(tree):
                if isinstance(node, kinds):
                    yield f"{path.name}:{getattr(node, 'lineno', 0)}", node

    def test_files_l1_l14(self):
        self.assertIn(PACKAGE / "__init__.py", FILES)
        for path in FILES:
            self.assertRegex(path.name, r"^([a-z][a-z0-9_]*|__init__|__main__)\.py$")

    def test_signs_words_and_sizes_l10_l14_l17(self):
        for path in FILES:
            rows = path.read_text(encoding="utf-8").split("\n")
            self.assertLessEqual(len(rows), 401, path.name)
            for number, row in enumerate(rows, start=1):
                place = f"{path.name}:{number}"
                self.assertRegex(row, r"^[ -~]{0,120}$", place)
                self.assertIsNone(WORDS.search(row), place)

    def test_defs_have_at_most_forty_lines_l10(self):
        for place, node in self.each_node(ast.FunctionDef):
            self.assertLessEqual(node.end_lineno - node.lineno + 1, 40, place)

    def test_only_the_statements_and_expressions_that_are_told_l6_l7(self):
        for place, node in self.each_node(ast.AST):
            self.assertIn(node.__class__.__name__, NODES, place)
        for place, node in self.each_node(ast.For, ast.While):
            self.assertEqual(node.orelse, [], place)
        for place, node in self.each_node(ast.Constant):
            self.assertNotIsInstance(node.value, (float, complex), place)

    def test_imports_l2_l16(self):
        for place, node in self.each_node(ast.ImportFrom):
            self.assertEqual(node.level, 0, place)
            self.assertRegex(node.module, r"^(lockstretch\.[a-z_]+|__future__)$", place)
            self.assertNotIn("*", [alias.name for alias in node.names], place)

    def test_the_top_of_a_file_l3(self):
        told = (ast.ImportFrom, ast.FunctionDef, ast.ClassDef, ast.Assign, ast.AnnAssign)
        for path, tree in self.each_tree():
            self.assertIsNotNone(ast.get_docstring(tree), path.name)
            for node in tree.body[1:]:
                self.assertIsInstance(node, told, f"{path.name}:{node.lineno}")

    def test_defs_and_classes_l4_l5(self):
        for place, node in self.each_node(ast.FunctionDef, ast.ClassDef):
            self.assertEqual(node.decorator_list, [], place)
        for place, node in self.each_node(ast.arguments):
            self.assertEqual((node.posonlyargs, node.vararg, node.kwarg), ([], None, None), place)
        for place, node in self.each_node(ast.ClassDef):
            self.assertLessEqual(len(node.bases), 1, place)
            for part in node.body:
                docstring = isinstance(part, ast.Expr) and isinstance(part.value, ast.Constant)
                self.assertTrue(docstring or isinstance(part, (ast.FunctionDef, ast.Pass)), place)

    def test_names_l8_l12_l15(self):
        for path, tree in self.each_tree():
            given = list(bound_names(tree))
            for name in given:
                self.assertTrue(PLAIN.fullmatch(name) or name in SPECIAL, (path.name, name))
                self.assertNotIn(name, BUILT_IN, path.name)
            for node in ast.walk(tree):
                if isinstance(node, ast.Name):
                    self.assertIn(node.id, given + BUILT_IN, f"{path.name}:{node.lineno}")

    def test_is_stands_beside_none_and_truths_alone_l20(self):
        for place, node in self.each_node(ast.Compare):
            things = [node.left] + node.comparators
            for at, sign in enumerate(node.ops):
                if isinstance(sign, (ast.Is, ast.IsNot)):
                    self.assertTrue(is_single(things[at]) or is_single(things[at + 1]), place)

    def methods_and_values(self):
        """The names of all own methods, and of all values that objects are given."""
        methods = {part.name for place, node in self.each_node(ast.ClassDef) for part in node.body
                   if isinstance(part, ast.FunctionDef)}
        values = {node.attr for place, node in self.each_node(ast.Attribute) if isinstance(node.ctx, ast.Store)}
        return methods, values

    def test_names_that_are_not_used_l17(self):
        for place, node in self.each_node(ast.Name, ast.arg, ast.Attribute, ast.FunctionDef):
            name = [getattr(node, word) for word in ("id", "arg", "attr", "name") if hasattr(node, word)][0]
            self.assertNotIn(name, UNUSED, place)

    def test_each_name_once_and_none_of_the_file_s_own_l15(self):
        for path, tree in self.each_tree():
            tops = names_of(tree, ast.FunctionDef, ast.ClassDef) + list(imports_of(tree))
            tops += [node.targets[0].id for node in tree.body if isinstance(node, ast.Assign)]
            self.assertEqual(len(tops), len(set(tops)), path.name)
            taken = set(names_of(tree, ast.ClassDef, ast.FunctionDef)) | set(imports_of(tree)) | set(dir(builtins))
            for node in ast.walk(tree):
                if isinstance(node, ast.arg) or isinstance(node, ast.Name) and isinstance(node.ctx, ast.Store):
                    name = node.arg if isinstance(node, ast.arg) else node.id
                    self.assertNotIn(name, taken, f"{path.name}:{node.lineno}")

    def test_tops_hold_no_list_or_dict_within_l15(self):
        for path, tree in self.each_tree():
            for node in tree.body:
                if isinstance(node, ast.Assign):
                    within = [part for part in ast.walk(node.value) if isinstance(part, (ast.List, ast.Dict))]
                    self.assertLessEqual(len(within), 1, f"{path.name}:{node.lineno}")

    def test_imports_from_the_very_file_and_in_no_ring_l16(self):
        trees = {path.stem: tree for path, tree in self.each_tree()}
        draws = {name: sorted(set(imports_of(tree).values())) for name, tree in trees.items()}
        for file, tree in trees.items():
            for name, source in imports_of(tree).items():
                self.assertIn(name, names_of(trees[source], ast.FunctionDef, ast.ClassDef), (file, name))
                uses = [node for node in ast.walk(tree) if isinstance(node, ast.Name) and node.id == name]
                self.assertTrue(uses, (file, name))
        done = []
        while len(done) < len(draws):
            ready = [name for name in draws if name not in done and set(draws[name]) <= set(done)]
            self.assertTrue(ready, "files that draw from one another")
            done.extend(ready)

    def test_methods_and_values_l18_l25_l26(self):
        methods, values = self.methods_and_values()
        self.assertEqual(methods & values, set())
        for kind in (str, int, list, dict, set, bytes, tuple):
            self.assertEqual((methods - set(SPECIAL)) & set(dir(kind)), set())
            self.assertEqual(values & set(dir(kind)), set())
        for path, tree in self.each_tree():
            asked = {id(node.func) for node in ast.walk(tree) if isinstance(node, ast.Call)}
            for node in ast.walk(tree):
                if isinstance(node, ast.Attribute):
                    told = methods | set(METHODS) if id(node) in asked else values
                    self.assertIn(node.attr, told, f"{path.name}:{node.lineno}")

    def test_errors_l19(self):
        own = [node.name for place, node in self.each_node(ast.ClassDef)]
        for place, node in self.each_node(ast.ExceptHandler):
            self.assertIn(node.type.id, own, place)
        for place, node in self.each_node(ast.Raise):
            self.assertTrue(node.exc is None or called(node.exc) in own, place)

    def test_keywords_at_python_s_own_l22(self):
        defs = [node.name for place, node in self.each_node(ast.FunctionDef, ast.ClassDef)]
        for place, node in self.each_node(ast.Call):
            if called(node) not in defs:
                for keyword in node.keywords:
                    self.assertIn(keyword.arg, KEYWORDS.get(called(node), ()), place)

    def test_walked_at_once_l23(self):
        for path, tree in self.each_tree():
            walked = []
            for node in ast.walk(tree):
                if isinstance(node, (ast.For, ast.comprehension)):
                    walked.append(node.iter)
                if called(node) in WALKERS and node.args:
                    walked.append(node.args[0])
            for node in ast.walk(tree):
                if called(node) in WALKED + ("items", "keys", "values"):
                    self.assertIn(node, walked, f"{path.name}:{node.lineno}")

    def test_sets_straight_within_sorted_or_len_l24(self):
        for path, tree in self.each_tree():
            held = [node.args[0] for node in ast.walk(tree) if called(node) in ("sorted", "len")]
            for node in ast.walk(tree):
                self.assertNotIsInstance(node, (ast.Set, ast.SetComp))
                if called(node) in ("set", "frozenset"):
                    self.assertIn(node, held, f"{path.name}:{node.lineno}")

    def test_texts_and_powers_l27(self):
        for path in FILES:
            self.assertNotRegex(path.read_text(), r"\\[^nt\\'\"]", path.name)
        for place, node in self.each_node(ast.Constant):
            self.assertNotIn("%", node.value if isinstance(node.value, str) else "", place)
        for place, node in self.each_node(ast.BinOp):
            if isinstance(node.op, ast.Pow):
                self.assertIn(node.right.value, range(65), place)

    def test_methods_with_two_underscores_l28(self):
        for place, node in self.each_node(ast.FunctionDef):
            returns = [part for part in ast.walk(node) if isinstance(part, ast.Return)]
            if node.name == "__init__":
                self.assertEqual(returns, [], place)
            elif node.name in SPECIAL:
                stores = [part for part in ast.walk(node) if isinstance(getattr(part, "ctx", None), ast.Store)]
                self.assertEqual(stores, [], place)
                self.assertIsInstance(node.body[-1], ast.Return, place)
            for part in returns:
                if node.name == "__len__":
                    self.assertEqual(called(part.value), "len", place)
                if node.name == "__str__":
                    self.assertIsInstance(part.value, ast.JoinedStr, place)


if __name__ == "__main__":
    unittest.main()
