"""The package keeps to its small part of the language, as far as a test can see it."""

import ast
import builtins
import pathlib
import re
import unittest

PACKAGE = pathlib.Path(__file__).resolve().parent.parent / "meetjoin"

NODES = set("""
    Module Import ImportFrom alias FunctionDef arguments arg ClassDef Return Assign AugAssign For While If Raise Try
    ExceptHandler Expr Pass Break Continue BoolOp And Or BinOp Add Sub Mult FloorDiv Mod Pow BitAnd BitOr BitXor
    LShift RShift UnaryOp Not USub UAdd Invert Lambda IfExp Dict Set ListComp comprehension Compare Eq NotEq Lt LtE
    Gt GtE Is IsNot In NotIn Call keyword FormattedValue JoinedStr Constant Attribute Subscript Slice Name List Tuple
    Load Store
""".split())

OWN_NAMES = set("""
    len range enumerate zip min max sum abs sorted reversed int str bool list tuple dict set frozenset isinstance ord
    repr any all divmod Exception ValueError TypeError KeyError IndexError LookupError ZeroDivisionError
    ArithmeticError OverflowError RuntimeError NotImplementedError AttributeError StopIteration
""".split())

OWN_METHODS = set("""
    append clear copy count endswith extend find get index insert isalnum isalpha isdigit islower isspace isupper items
    join keys ljust lower lstrip partition pop remove replace reverse rfind rjust rpartition rsplit rstrip setdefault
    split splitlines startswith strip update upper values zfill bit_length
""".split())

DUNDERS = {"__init__", "__eq__", "__repr__", "__str__", "__len__"}

WORDS = re.compile(r"\b(type|typing|typing_extensions|enum|Enum|IntEnum|StrEnum|Flag|IntFlag|Generic|Protocol|ABC|"
                   r"ABCMeta|namedtuple|NamedTuple|TypedDict|TYPE_CHECKING|abstractmethod)\b"
                   r"|dataclass|overload|contextmanager")


def texts():
    return {path.name: path.read_text(encoding="utf-8") for path in sorted(PACKAGE.glob("*.py"))}


def nodes():
    for name, text in texts().items():
        for node in ast.walk(ast.parse(text)):
            yield f"{name}:{getattr(node, 'lineno', 0)}", node


def bound_names(node):
    if isinstance(node, (ast.FunctionDef, ast.ClassDef)):
        return [node.name]
    if isinstance(node, ast.arg):
        return [node.arg]
    if isinstance(node, ast.Name):
        return [node.id]
    if isinstance(node, ast.Attribute):
        return [node.attr]
    if isinstance(node, ast.ExceptHandler) and node.name:
        return [node.name]
    return []


class FormTest(unittest.TestCase):
    def test_nothing_but_python_files(self):
        names = sorted(path.name for path in PACKAGE.iterdir() if path.name != "__pycache__")
        self.assertIn("__init__.py", names)
        for name in names:
            self.assertRegex(name, r"^(__init__|[a-z][a-z0-9_]*)\.py$")

    def test_signs_and_sizes(self):
        for name, text in texts().items():
            self.assertRegex(text, r"\A[ -~\n]*\Z", name)
            lines = text.split("\n")
            self.assertLessEqual(len(lines), 400, name)
            self.assertLessEqual(max(len(line) for line in lines), 120, name)

    def test_functions_are_short(self):
        for place, node in nodes():
            if isinstance(node, ast.FunctionDef):
                self.assertLessEqual(node.end_lineno - node.lineno + 1, 40, place)

    def test_words_that_stand_nowhere(self):
        for name, text in texts().items():
            self.assertIsNone(WORDS.search(text), name)

    def test_only_the_named_parts_of_the_language(self):
        for place, node in nodes():
            self.assertIn(type(node).__name__, NODES, place)

    def test_imports_are_the_packages_own(self):
        for place, node in nodes():
            self.assertNotIsInstance(node, ast.Import, place)
            if isinstance(node, ast.ImportFrom):
                self.assertEqual(node.level, 0, place)
                self.assertRegex(node.module, r"^meetjoin\.[a-z]+$", place)
                self.assertNotIn("*", [alias.name for alias in node.names], place)

    def test_names_of_pythons_own(self):
        for place, node in nodes():
            if isinstance(node, ast.Name) and hasattr(builtins, node.id):
                self.assertIn(node.id, OWN_NAMES, place)
                self.assertIsInstance(node.ctx, ast.Load, place)

    def test_no_name_begins_with_an_underscore(self):
        for place, node in nodes():
            for name in bound_names(node):
                self.assertTrue(name in DUNDERS or not name.startswith("_"), (place, name))

    def test_methods_are_the_packages_own_or_the_named_ones(self):
        own = {"__init__"}
        for place, node in nodes():
            if isinstance(node, ast.ClassDef):
                own.update(part.name for part in node.body if isinstance(part, ast.FunctionDef))
        for place, node in nodes():
            if isinstance(node, ast.Call) and isinstance(node.func, ast.Attribute):
                self.assertIn(node.func.attr, own | OWN_METHODS, place)

    def test_no_name_is_a_method_and_a_value(self):
        methods = set()
        values = set()
        for place, node in nodes():
            if isinstance(node, ast.ClassDef):
                methods.update(part.name for part in node.body if isinstance(part, ast.FunctionDef))
            if isinstance(node, ast.Attribute) and isinstance(node.ctx, ast.Store):
                values.add(node.attr)
        self.assertEqual(methods & values, set())

    def test_functions_are_plain(self):
        for place, node in nodes():
            if isinstance(node, (ast.FunctionDef, ast.ClassDef)):
                self.assertEqual(node.decorator_list, [], place)
            if isinstance(node, ast.arguments):
                self.assertFalse(node.vararg or node.kwarg or node.kwonlyargs or node.posonlyargs, place)

    def test_statements_are_plain(self):
        for place, node in nodes():
            if isinstance(node, (ast.For, ast.While)):
                self.assertEqual(node.orelse, [], place)
            if isinstance(node, ast.Try):
                self.assertEqual(node.finalbody, [], place)
            if isinstance(node, ast.Assign):
                self.assertEqual(len(node.targets), 1, place)

    def test_expressions_are_plain(self):
        for place, node in nodes():
            if isinstance(node, ast.ListComp):
                self.assertEqual(len(node.generators), 1, place)
                self.assertLessEqual(len(node.generators[0].ifs), 1, place)
            if isinstance(node, ast.Constant):
                self.assertIn(type(node.value), (int, str, bool, type(None)), place)
                self.assertNotIn("%", str(node.value), place)
            if isinstance(node, ast.FormattedValue):
                self.assertIsInstance(node.value, ast.Name, place)
                self.assertIsNone(node.format_spec, place)


if __name__ == "__main__":
    unittest.main()
