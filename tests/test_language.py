"""The rules of ../shared/LANGUAGE.md that can be seen in the package's files without running them."""

import ast
import builtins
import pathlib
import re
import unittest

PACKAGE = pathlib.Path(__file__).resolve().parent.parent / "worldyard"

STATEMENTS = (
    ast.FunctionDef, ast.ClassDef, ast.Return, ast.Assign, ast.AugAssign, ast.For, ast.While, ast.If, ast.Raise,
    ast.Try, ast.ImportFrom, ast.Expr, ast.Pass, ast.Break, ast.Continue,
)
EXPRESSIONS = (
    ast.BoolOp, ast.BinOp, ast.UnaryOp, ast.Lambda, ast.IfExp, ast.Dict, ast.Set, ast.ListComp, ast.Compare, ast.Call,
    ast.FormattedValue, ast.JoinedStr, ast.Constant, ast.Attribute, ast.Subscript, ast.Name, ast.List, ast.Tuple,
    ast.Slice,
)
BUILTINS = """len range enumerate zip min max sum abs sorted reversed int str bool list tuple dict set frozenset isinstance
ord repr any all divmod Exception ValueError TypeError KeyError IndexError LookupError ZeroDivisionError
ArithmeticError OverflowError RuntimeError NotImplementedError AttributeError StopIteration""".split()
METHODS = """append clear copy count endswith extend find get index insert isalnum isalpha isdigit islower isspace isupper
items join keys ljust lower lstrip partition pop remove replace reverse rfind rjust rpartition rsplit rstrip setdefault
split splitlines startswith strip update upper values zfill bit_length""".split()
WORDS_THAT_STAND_NOWHERE = r"""\b(type|typing|typing_extensions|enum|Enum|IntEnum|StrEnum|Flag|IntFlag|Generic|Protocol
|ABC|ABCMeta|namedtuple|NamedTuple|TypedDict|TYPE_CHECKING|abstractmethod)\b|dataclass|overload|contextmanager"""
WALKERS = ("zip", "enumerate", "reversed", "range")
WALKED_BY = ("list", "tuple", "dict", "sorted", "sum", "any", "all", "enumerate", "zip", "min", "max")
VIEWS = ("items", "keys", "values")
NAMES_NOT_USED = """register mro elements open input version_info with_traceback add_note attrgetter breakpoint builtins
compile copyright credits delattr dir eval exec exit gc getattr globals hasattr help id importlib license locals
methodcaller os quit setattr super sys type vars""".split()
SPECIAL_METHODS = ("__init__", "__eq__", "__repr__", "__str__", "__len__")


def files():
    return sorted(PACKAGE.glob("*.py"))


def trees():
    return [(path, ast.parse(path.read_text(encoding="utf-8"))) for path in files()]


def nodes(kinds):
    return [(path, node) for path, tree in trees() for node in ast.walk(tree) if isinstance(node, kinds)]


def bound_names(tree):
    """Names that a file binds, wherever in it."""
    found = []
    for node in ast.walk(tree):
        if isinstance(node, (ast.FunctionDef, ast.ClassDef)):
            found.append(node.name)
        elif isinstance(node, ast.arg):
            found.append(node.arg)
        elif isinstance(node, ast.Name) and isinstance(node.ctx, ast.Store):
            found.append(node.id)
        elif isinstance(node, ast.ExceptHandler) and node.name:
            found.append(node.name)
        elif isinstance(node, ast.alias):
            found.append(node.asname or node.name)
    return found


def top_names(tree):
    """Names that a file's top defines, each as often as it does."""
    found = []
    for node in tree.body:
        if isinstance(node, (ast.FunctionDef, ast.ClassDef)):
            found.append(node.name)
        elif isinstance(node, ast.Assign):
            found += [target.id for target in node.targets]
    return found


def local_names(tree):
    """Parameters and locals of a file's functions."""
    found = []
    for node in ast.walk(tree):
        if isinstance(node, ast.arg):
            found.append(node.arg)
        elif isinstance(node, (ast.FunctionDef, ast.Lambda)):
            inner = [part for part in ast.walk(node) if isinstance(part, ast.Name)]
            found += [part.id for part in inner if isinstance(part.ctx, ast.Store)]
    return found


def walked_on_the_spot(tree):
    """What stands behind the in of a loop or a comprehension, or first in a call that walks it."""
    found = []
    for node in ast.walk(tree):
        if isinstance(node, (ast.For, ast.comprehension)):
            found.append(node.iter)
        elif isinstance(node, ast.Call) and isinstance(node.func, ast.Name) and node.func.id in WALKED_BY:
            found += node.args[:1]
    return found


def sets_that_are_not_kept(tree):
    """Sets beside in, == or !=, or straight within sorted or len, several with a sign between too."""
    found = []
    for node in ast.walk(tree):
        if isinstance(node, ast.Compare) and isinstance(node.ops[0], (ast.In, ast.NotIn, ast.Eq, ast.NotEq)):
            found += [node.left] + node.comparators
        elif isinstance(node, ast.Call) and isinstance(node.func, ast.Name) and node.func.id in ("sorted", "len"):
            found += node.args if node.keywords == [] else []
    for node in found:
        if isinstance(node, ast.BinOp):
            found += [node.left, node.right]
    return found


def is_call_of(node, names):
    return isinstance(node, ast.Call) and isinstance(node.func, ast.Name) and node.func.id in names


def imports(tree):
    return [node for node in tree.body if isinstance(node, ast.ImportFrom)]


class Language(unittest.TestCase):
    def test_files_and_signs(self):
        self.assertIn("__init__.py", [path.name for path in files()])
        for path in PACKAGE.iterdir():
            if path.name != "__pycache__":
                self.assertRegex(path.name, r"^[a-z0-9_]+\.py$")
        for path in files():
            for sign in path.read_bytes():
                self.assertTrue(sign == 10 or 32 <= sign <= 126, (path, sign))

    def test_sizes(self):
        for path in files():
            lines = path.read_text(encoding="utf-8").split("\n")
            self.assertLessEqual(len(lines), 400, path)
            self.assertLessEqual(max([len(line) for line in lines]), 120, path)
        for path, node in nodes(ast.FunctionDef):
            self.assertLessEqual(node.end_lineno - node.lineno + 1, 40, (path, node.name))

    def test_words_that_stand_nowhere(self):
        pattern = re.compile(WORDS_THAT_STAND_NOWHERE.replace("\n", ""))
        for path in files():
            self.assertIsNone(pattern.search(path.read_text(encoding="utf-8")), path)

    def test_statements_and_expressions(self):
        for path, node in nodes((ast.stmt, ast.expr)):
            where = (path, node.lineno)
            self.assertIsInstance(node, STATEMENTS + EXPRESSIONS, where)
            if isinstance(node, ast.Assign):
                self.assertEqual(len(node.targets), 1, where)
            if isinstance(node, (ast.For, ast.While)):
                self.assertEqual(node.orelse, [], where)
            if isinstance(node, ast.Try):
                self.assertEqual(node.finalbody, [], where)
            if isinstance(node, ast.ListComp):
                self.assertEqual(len(node.generators), 1, where)
                self.assertLessEqual(len(node.generators[0].ifs), 1, where)
            if isinstance(node, ast.BinOp):
                self.assertNotIsInstance(node.op, (ast.Div, ast.MatMult), where)

    def test_plain_values(self):
        for path, node in nodes(ast.Constant):
            where = (path, node.lineno)
            self.assertTrue(node.value is None or isinstance(node.value, (bool, int, str)), where)
            if isinstance(node.value, str):
                self.assertNotIn("%", node.value, where)

    def test_is_stands_beside_plain_values_alone(self):
        for path, node in nodes(ast.Compare):
            for op, right in zip(node.ops, node.comparators):
                if isinstance(op, (ast.Is, ast.IsNot)):
                    self.assertIsInstance(right, ast.Constant, (path, node.lineno))

    def test_functions_and_classes(self):
        for path, node in nodes((ast.FunctionDef, ast.ClassDef)):
            self.assertEqual(node.decorator_list, [], (path, node.name))
        for path, node in nodes(ast.arguments):
            self.assertEqual((node.vararg, node.kwarg, node.kwonlyargs, node.posonlyargs), (None, None, [], []), path)
        for path, node in nodes(ast.ClassDef):
            self.assertLessEqual(len(node.bases), 1, (path, node.name))
            for part in node.body:
                self.assertIsInstance(part, (ast.FunctionDef, ast.Pass), (path, node.name))

    def test_names_are_plain_and_none_of_pythons_own(self):
        for path, tree in trees():
            for name in bound_names(tree):
                if name not in SPECIAL_METHODS + ("__all__", "__version__"):
                    self.assertRegex(name, r"^[A-Za-z][A-Za-z0-9_]*$", path)
                    self.assertFalse(hasattr(builtins, name), (path, name))
            tops = top_names(tree)
            self.assertEqual(len(tops), len(set(tops)), path)

    def test_pythons_own_names(self):
        for path, node in nodes(ast.Name):
            if hasattr(builtins, node.id):
                self.assertIn(node.id, BUILTINS, (path, node.lineno))

    def test_locals_are_not_called_like_imports_or_classes(self):
        for path, tree in trees():
            taken = [alias.asname or alias.name for node in imports(tree) for alias in node.names]
            taken += [node.name for node in tree.body if isinstance(node, ast.ClassDef)]
            for name in local_names(tree):
                self.assertNotIn(name, taken, path)

    def test_walked_at_once(self):
        for path, tree in trees():
            walked = walked_on_the_spot(tree)
            for node in ast.walk(tree):
                views = isinstance(node, ast.Call) and isinstance(node.func, ast.Attribute) and node.func.attr in VIEWS
                if views or is_call_of(node, WALKERS):
                    self.assertTrue(any(node is one for one in walked), (path, node.lineno))

    def test_sets_are_not_kept(self):
        for path, tree in trees():
            right = sets_that_are_not_kept(tree)
            for node in ast.walk(tree):
                if isinstance(node, ast.Set) or is_call_of(node, ("set", "frozenset")):
                    self.assertTrue(any(node is one for one in right), (path, node.lineno))

    def test_names_that_are_not_used(self):
        for path, node in nodes((ast.Name, ast.Attribute, ast.arg, ast.FunctionDef, ast.ClassDef)):
            for field in ("id", "attr", "arg", "name"):
                self.assertNotIn(getattr(node, field, None), NAMES_NOT_USED, path)

    def test_methods(self):
        own = [node.name for path, node in nodes(ast.FunctionDef)]
        for path, node in nodes(ast.Call):
            if isinstance(node.func, ast.Attribute):
                self.assertIn(node.func.attr, METHODS + own, (path, node.lineno))

    def test_imports(self):
        defined = {f"worldyard.{path.stem}": top_names(tree) for path, tree in trees()}
        for path, node in nodes(ast.ImportFrom):
            self.assertEqual((node.level, node.col_offset), (0, 0), (path, node.lineno))
            for alias in node.names:
                self.assertIn(alias.name, defined.get(node.module, []), (path, node.lineno))

    def test_no_two_files_draw_from_one_another(self):
        drawn = {f"worldyard.{path.stem}": [node.module for node in imports(tree)] for path, tree in trees()}
        while drawn:
            free = [name for name in drawn if not any(other in drawn for other in drawn[name])]
            self.assertNotEqual(free, [], f"a ring among {sorted(drawn)}")
            for name in free:
                del drawn[name]


if __name__ == "__main__":
    unittest.main()
