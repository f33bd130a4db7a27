"""The form of the package's files: the rules of LANGUAGE.md that can be seen from a file by itself.

It also holds point [2] to its word: where nothing but the package is drawn in, there is no clock, chance or file.
"""

import ast
import builtins
import pathlib
import re
import unittest

PACKAGE = pathlib.Path(__file__).resolve().parent.parent / "wapentake"
FILES = sorted(path for path in PACKAGE.rglob("*") if path.is_file() and "__pycache__" not in path.parts)

ALLOWED_BUILTINS = set(
    "len range enumerate zip min max sum abs sorted reversed int str bool bytes list tuple dict set frozenset"
    " isinstance ord repr any all divmod Exception ValueError TypeError KeyError IndexError LookupError"
    " ZeroDivisionError ArithmeticError OverflowError RuntimeError NotImplementedError AttributeError"
    " StopIteration".split())
DUNDER_METHODS = {"__init__", "__eq__", "__repr__", "__str__", "__len__"}
FORBIDDEN_NODES = (
    ast.With, ast.AsyncWith, ast.AsyncFor, ast.AsyncFunctionDef, ast.Await, ast.Match, ast.Global, ast.Nonlocal,
    ast.Yield, ast.YieldFrom, ast.GeneratorExp, ast.NamedExpr, ast.Div, ast.MatMult, ast.Import)
FORBIDDEN_WORDS = re.compile(
    r"\b(type|typing|typing_extensions|enum|Enum|IntEnum|StrEnum|Flag|IntFlag|Generic|Protocol|ABC|ABCMeta"
    r"|namedtuple|NamedTuple|TypedDict|TYPE_CHECKING|abstractmethod)\b|dataclass|overload|contextmanager")
FORBIDDEN_NAMES = set(
    "register mro elements open input version_info with_traceback add_note attrgetter breakpoint builtins compile"
    " copyright credits delattr dir eval exec exit gc getattr globals hasattr help id importlib license locals"
    " methodcaller os quit setattr super type vars sys format format_map".split())
# The methods of Python's own texts, lists and dicts that may be called.
PLAIN_METHODS = set(
    "append clear copy count endswith extend find get index insert isalnum isalpha isdigit islower isspace isupper"
    " items join keys ljust lower lstrip partition pop remove replace reverse rfind rjust rpartition rsplit rstrip"
    " setdefault split splitlines startswith strip update upper values zfill bit_length sort".split())


def trees():
    return [(path.name, ast.parse(path.read_text(encoding="utf-8"))) for path in FILES]


def nodes(*kinds):
    return [(name, node) for name, tree in trees() for node in ast.walk(tree) if isinstance(node, kinds)]


def bound_names(tree):
    """Every name that a file binds, whatever by."""
    told = []
    for node in ast.walk(tree):
        if isinstance(node, (ast.FunctionDef, ast.ClassDef)):
            told.append(node.name)
        elif isinstance(node, ast.arg):
            told.append(node.arg)
        elif isinstance(node, ast.Name) and isinstance(node.ctx, ast.Store):
            told.append(node.id)
        elif isinstance(node, ast.Attribute):
            told.append(node.attr)
        elif isinstance(node, ast.alias):
            told.append(node.asname or node.name)
        elif isinstance(node, ast.ExceptHandler) and node.name:
            told.append(node.name)
    return told


def own_names(kind):
    """For each class the names of its methods, or of the values that it gives its objects."""
    told = set()
    for name, one in nodes(ast.ClassDef):
        for node in ast.walk(one):
            if kind == "method" and isinstance(node, ast.FunctionDef):
                told.add(node.name)
            if kind == "value" and isinstance(node, ast.Attribute) and isinstance(node.ctx, ast.Store):
                told.add(node.attr)
    return told


class TestForm(unittest.TestCase):
    def test_files(self):
        self.assertIn("__init__.py", [path.name for path in FILES])
        for path in FILES:
            self.assertRegex(path.name, r"^[a-z0-9_]+\.py$")
            self.assertFalse(path.name.startswith(("test", "law_", "conftest", "site")), path.name)

    def test_signs_and_sizes(self):
        for path in FILES:
            text = path.read_bytes().decode("ascii")
            self.assertRegex(text, r"\A[ -~\n]*\Z", path.name)
            rows = text.split("\n")
            self.assertLessEqual(len(rows), 401, path.name)
            self.assertLessEqual(max(len(row) for row in rows), 120, path.name)
            self.assertIsNone(FORBIDDEN_WORDS.search(text), path.name)

    def test_functions_are_short(self):
        for name, node in nodes(ast.FunctionDef):
            self.assertLessEqual(node.end_lineno - node.lineno + 1, 40, f"{name}: {node.name}")

    def test_only_the_package_is_drawn_in(self):
        stems = {path.stem for path in FILES}
        for name, node in nodes(ast.ImportFrom):
            self.assertEqual(node.level, 0, name)
            top, _, stem = node.module.partition(".")
            self.assertEqual(top, "wapentake", name)
            self.assertIn(stem, stems, name)
            self.assertNotIn("*", [alias.name for alias in node.names], name)

    def test_names_are_drawn_from_the_file_that_defines_them(self):
        defined = {name[:-3]: {node.name for node in tree.body if isinstance(node, (ast.FunctionDef, ast.ClassDef))}
                   | {node.targets[0].id for node in tree.body if isinstance(node, ast.Assign)}
                   for name, tree in trees()}
        for name, node in nodes(ast.ImportFrom):
            for alias in node.names:
                self.assertIn(alias.name, defined[node.module.partition(".")[2]], name)

    def test_no_two_files_draw_from_one_another(self):
        drawn = {name[:-3]: set() for name, tree in trees()}
        for name, node in nodes(ast.ImportFrom):
            drawn[name[:-3]].add(node.module.partition(".")[2])
        while drawn:
            ready = [stem for stem in drawn if not drawn[stem] & set(drawn)]
            self.assertNotEqual(ready, [], sorted(drawn))
            for stem in ready:
                del drawn[stem]

    def test_methods_and_values_are_known(self):
        methods, values = own_names("method") | PLAIN_METHODS | DUNDER_METHODS, own_names("value")
        for name, tree in trees():
            called = [node.func for node in ast.walk(tree) if isinstance(node, ast.Call)]
            for node in ast.walk(tree):
                if isinstance(node, ast.Attribute):
                    self.assertIn(node.attr, methods if node in called else values, f"{name}:{node.lineno}")

    def test_no_statement_or_value_outside_the_rules(self):
        for name, node in nodes(*FORBIDDEN_NODES):
            self.fail(f"{name}:{getattr(node, 'lineno', '?')}: {type(node).__name__}")
        for name, node in nodes(ast.Constant):
            self.assertNotIsInstance(node.value, (float, complex), name)
            if isinstance(node.value, str):
                self.assertNotIn("%", node.value, name)
        for name, node in nodes(ast.FunctionDef, ast.ClassDef):
            self.assertEqual(node.decorator_list, [], name)
        for name, node in nodes(ast.arguments):
            self.assertFalse(node.vararg or node.kwarg or node.posonlyargs, name)
        for name, node in nodes(ast.For, ast.While):
            self.assertEqual(node.orelse, [], name)

    def test_names(self):
        for name, tree in trees():
            for bound in bound_names(tree):
                self.assertNotIn(bound, FORBIDDEN_NAMES, name)
                if bound not in DUNDER_METHODS:
                    self.assertRegex(bound, r"^[A-Za-z]\w*$", name)

    def test_python_own_names(self):
        for name, tree in trees():
            for node in ast.walk(tree):
                if isinstance(node, ast.Name) and hasattr(builtins, node.id):
                    self.assertIn(node.id, ALLOWED_BUILTINS, f"{name}:{node.lineno}")
                    self.assertIsInstance(node.ctx, ast.Load, f"{name}:{node.lineno}")
                if isinstance(node, ast.arg):
                    self.assertFalse(hasattr(builtins, node.arg), f"{name}:{node.lineno}")

    def test_each_name_once_at_a_top(self):
        for name, tree in trees():
            told = []
            for node in tree.body:
                if isinstance(node, (ast.FunctionDef, ast.ClassDef)):
                    told.append(node.name)
                elif isinstance(node, ast.Assign):
                    told.extend(target.id for target in node.targets)
                elif isinstance(node, ast.ImportFrom):
                    told.extend(alias.asname or alias.name for alias in node.names)
                else:
                    self.assertIsInstance(node, ast.Expr, name)
                    self.assertIsInstance(node.value, ast.Constant, name)
            self.assertEqual(len(told), len(set(told)), name)

    def test_no_local_is_called_like_a_class_or_an_import(self):
        for name, tree in trees():
            tops = {node.name for node in tree.body if isinstance(node, ast.ClassDef)}
            tops |= {alias.name for node in tree.body if isinstance(node, ast.ImportFrom) for alias in node.names}
            for node in ast.walk(tree):
                if isinstance(node, ast.arg):
                    self.assertNotIn(node.arg, tops, name)
                if isinstance(node, ast.Name) and isinstance(node.ctx, ast.Store):
                    self.assertNotIn(node.id, tops, name)

    def test_no_name_is_a_method_and_a_value(self):
        self.assertEqual(own_names("method") & own_names("value"), set())

    def test_is_stands_beside_none_true_and_false_alone(self):
        for name, node in nodes(ast.Compare):
            for sign, right in zip(node.ops, node.comparators):
                if isinstance(sign, (ast.Is, ast.IsNot)):
                    self.assertIsInstance(right, ast.Constant, f"{name}:{node.lineno}")
                    self.assertIn(right.value, (None, True, False), f"{name}:{node.lineno}")


if __name__ == "__main__":
    unittest.main()
