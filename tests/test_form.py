"""The package keeps to its small part of the language, as far as a test can see it."""

import ast
import builtins
import pathlib
import re
import unittest

PACKAGE = pathlib.Path(__file__).resolve().parent.parent / "meetjoin"

NODES = set("""
    Module Import ImportFrom alias FunctionDef arguments arg ClassDef Return Assign AugAssign For While If Raise Try
    ExceptHandler Expr Pass Break Continue BoolOp And Or BinOp Add Sub Mult FloorDiv Mod Pow BitAnd BitOr BitXor
    LShift RShift UnaryOp Not USub UAdd Invert Lambda IfExp Dict Set ListComp comprehension Compare Eq NotEq Lt LtE
    Gt GtE Is IsNot In NotIn Call keyword FormattedValue JoinedStr Constant Attribute Subscript Slice Name List Tuple
    Load Store
""".split())

OWN_NAMES = set("""
    len range enumerate zip min max sum abs sorted reversed int str bool list tuple dict set frozenset isinstance ord
    repr any all divmod Exception ValueError TypeError KeyError IndexError LookupError ZeroDivisionError
    ArithmeticError OverflowError RuntimeError NotImplementedError AttributeError StopIteration
""".split())

OWN_METHODS = set("""
    append clear copy count endswith extend find get index insert isalnum isalpha isdigit islower isspace isupper items
    join keys ljust lower lstrip partition pop remove replace reverse rfind rjust rpartition rsplit rstrip setdefault
    split splitlines startswith strip update upper values zfill bit_length
""".split())

DUNDERS = {"__init__", "__eq__", "__repr__", "__str__", "__len__"}

BARRED = set("""
    register mro elements open input version_info with_traceback add_note attrgetter breakpoint builtins compile
    copyright credits delattr dir eval exec exit gc getattr globals hasattr help id importlib license locals
    methodcaller os quit setattr super type vars sys chr print
""".split())

WALKED = {"zip", "enumerate", "reversed", "range", "items", "keys", "values"}

WALKERS = {"list", "tuple", "dict", "sorted", "sum", "any", "all", "enumerate", "zip", "min", "max", "join"}

KEYWORDS = {"sorted": {"key", "reverse"}, "min": {"key", "default"}, "max": {"key", "default"}, "sum": {"start"},
            "enumerate": {"start"}, "zip": {"strict"}}

WORDS = re.compile(r"\b(type|typing|typing_extensions|enum|Enum|IntEnum|StrEnum|Flag|IntFlag|Generic|Protocol|ABC|"
                   r"ABCMeta|namedtuple|NamedTuple|TypedDict|TYPE_CHECKING|abstractmethod)\b"
                   r"|dataclass|overload|contextmanager")


def texts():
    return {path.name: path.read_text(encoding="utf-8") for path in sorted(PACKAGE.glob("*.py"))}


def nodes():
    for name, text in texts().items():
        for node in ast.walk(ast.parse(text)):
            yield f"{name}:{getattr(node, 'lineno', 0)}", node


def bound_names(node):
    if isinstance(node, (ast.FunctionDef, ast.ClassDef)):
        return [node.name]
    if isinstance(node, ast.arg):
        return [node.arg]
    if isinstance(node, ast.Name):
        return [node.id]
    if isinstance(node, ast.Attribute):
        return [node.attr]
    if isinstance(node, ast.ExceptHandler) and node.name:
        return [node.name]
    return []


def called_name(node):
    if isinstance(node, ast.Call) and isinstance(node.func, ast.Name):
        return node.func.id
    if isinstance(node, ast.Call) and isinstance(node.func, ast.Attribute):
        return node.func.attr
    return None


def is_plain_value(node):
    if isinstance(node, (ast.List, ast.Tuple)):
        return all(is_plain_value(part) for part in node.elts)
    if isinstance(node, ast.Dict):
        return all(is_plain_value(part) for part in node.keys + node.values)
    return isinstance(node, ast.Constant)


def is_docstring(node):
    return isinstance(node, ast.Expr) and isinstance(node.value, ast.Constant) and isinstance(node.value.value, str)


def drawn_from(tree):
    """What a file imports: from which file, which names."""
    return [(node.module.split(".")[-1], [alias.name for alias in node.names])
            for node in tree.body if isinstance(node, ast.ImportFrom)]


def top_names(tree):
    names = [node.name for node in tree.body if isinstance(node, (ast.FunctionDef, ast.ClassDef))]
    return names + [node.targets[0].id for node in tree.body if isinstance(node, ast.Assign)]


def local_names(function):
    for node in ast.walk(function):
        if isinstance(node, ast.arg):
            yield node.arg
        if isinstance(node, ast.Name) and isinstance(node.ctx, ast.Store):
            yield node.id


class FormTest(unittest.TestCase):
    def test_nothing_but_python_files(self):
        names = sorted(path.name for path in PACKAGE.iterdir() if path.name != "__pycache__")
        self.assertIn("__init__.py", names)
        for name in names:
            self.assertRegex(name, r"^(__init__|[a-z][a-z0-9_]*)\.py$")

    def test_signs_and_sizes(self):
        for name, text in texts().items():
            self.assertRegex(text, r"\A[ -~\n]*\Z", name)
            lines = text.split("\n")
            self.assertLessEqual(len(lines), 400, name)
            self.assertLessEqual(max(len(line) for line in lines), 120, name)

    def test_functions_are_short(self):
        for place, node in nodes():
            if isinstance(node, ast.FunctionDef):
                self.assertLessEqual(node.end_lineno - node.lineno + 1, 40, place)

    def test_words_that_stand_nowhere(self):
        for name, text in texts().items():
            self.assertIsNone(WORDS.search(text), name)

    def test_only_the_named_parts_of_the_language(self):
        for place, node in nodes():
            self.assertIn(type(node).__name__, NODES, place)

    def test_imports_are_the_packages_own(self):
        for place, node in nodes():
            self.assertNotIsInstance(node, ast.Import, place)
            if isinstance(node, ast.ImportFrom):
                self.assertEqual(node.level, 0, place)
                self.assertRegex(node.module, r"^meetjoin\.[a-z]+$", place)
                self.assertNotIn("*", [alias.name for alias in node.names], place)

    def test_names_of_pythons_own(self):
        for place, node in nodes():
            if isinstance(node, ast.Name) and hasattr(builtins, node.id):
                self.assertIn(node.id, OWN_NAMES, place)
                self.assertIsInstance(node.ctx, ast.Load, place)

    def test_no_name_begins_with_an_underscore(self):
        for place, node in nodes():
            for name in bound_names(node):
                self.assertTrue(name in DUNDERS or not name.startswith("_"), (place, name))

    def test_methods_are_the_packages_own_or_the_named_ones(self):
        own = {"__init__"}
        for place, node in nodes():
            if isinstance(node, ast.ClassDef):
                own.update(part.name for part in node.body if isinstance(part, ast.FunctionDef))
        for place, node in nodes():
            if isinstance(node, ast.Call) and isinstance(node.func, ast.Attribute):
                self.assertIn(node.func.attr, own | OWN_METHODS, place)

    def test_no_name_is_a_method_and_a_value(self):
        methods = set()
        values = set()
        for place, node in nodes():
            if isinstance(node, ast.ClassDef):
                methods.update(part.name for part in node.body if isinstance(part, ast.FunctionDef))
            if isinstance(node, ast.Attribute) and isinstance(node.ctx, ast.Store):
                values.add(node.attr)
        self.assertEqual(methods & values, set())

    def test_functions_are_plain(self):
        for place, node in nodes():
            if isinstance(node, (ast.FunctionDef, ast.ClassDef)):
                self.assertEqual(node.decorator_list, [], place)
            if isinstance(node, ast.arguments):
                self.assertFalse(node.vararg or node.kwarg or node.kwonlyargs or node.posonlyargs, place)

    def test_statements_are_plain(self):
        for place, node in nodes():
            if isinstance(node, (ast.For, ast.While)):
                self.assertEqual(node.orelse, [], place)
            if isinstance(node, ast.Try):
                self.assertEqual(node.finalbody, [], place)
            if isinstance(node, ast.Assign):
                self.assertEqual(len(node.targets), 1, place)

    def test_expressions_are_plain(self):
        for place, node in nodes():
            if isinstance(node, ast.ListComp):
                self.assertEqual(len(node.generators), 1, place)
                self.assertLessEqual(len(node.generators[0].ifs), 1, place)
            if isinstance(node, ast.Constant):
                self.assertIn(type(node.value), (int, str, bool, type(None)), place)
                self.assertNotIn("%", str(node.value), place)
            if isinstance(node, ast.FormattedValue):
                self.assertIsInstance(node.value, ast.Name, place)
                self.assertIsNone(node.format_spec, place)

    def test_bodies_of_classes_are_plain(self):
        for place, node in nodes():
            if isinstance(node, ast.ClassDef):
                self.assertLessEqual(len(node.bases), 1, place)
                self.assertEqual(node.keywords, [], place)
                for part in node.body:
                    self.assertTrue(isinstance(part, (ast.FunctionDef, ast.Pass)) or is_docstring(part), place)

    def test_defaults_are_plain_values(self):
        for place, node in nodes():
            if isinstance(node, ast.arguments):
                for value in node.defaults:
                    self.assertTrue(is_plain_value(value), place)

    def test_is_stands_beside_none_true_and_false(self):
        for place, node in nodes():
            if isinstance(node, ast.Compare) and any(isinstance(sign, (ast.Is, ast.IsNot)) for sign in node.ops):
                self.assertEqual(len(node.ops), 1, place)
                self.assertIsInstance(node.comparators[0], ast.Constant, place)
                self.assertIn(node.comparators[0].value, (None, True, False), place)

    def test_names_that_are_not_used(self):
        for place, node in nodes():
            for name in bound_names(node):
                self.assertNotIn(name, BARRED, place)

    def test_keywords_at_pythons_own(self):
        for place, node in nodes():
            name = called_name(node)
            if name in OWN_NAMES | OWN_METHODS:
                self.assertLessEqual({keyword.arg for keyword in node.keywords}, KEYWORDS.get(name, set()), place)

    def test_walked_at_once(self):
        for name, text in texts().items():
            tree = ast.parse(text)
            walked = []
            for node in ast.walk(tree):
                if isinstance(node, (ast.For, ast.comprehension)):
                    walked.append(node.iter)
                if called_name(node) in WALKERS:
                    walked.extend(node.args)
            for node in ast.walk(tree):
                if called_name(node) in WALKED:
                    self.assertTrue(any(node is other for other in walked), f"{name}:{node.lineno}")

    def test_powers_are_written_out(self):
        for place, node in nodes():
            if isinstance(node, (ast.BinOp, ast.AugAssign)) and isinstance(node.op, ast.Pow):
                power = node.right if isinstance(node, ast.BinOp) else node.value
                self.assertIsInstance(power, ast.Constant, place)
                self.assertLessEqual(power.value, 64, place)

    def test_errors_are_made_on_the_spot_and_taken_by_name(self):
        own = {node.name for place, node in nodes() if isinstance(node, ast.ClassDef)}
        for place, node in nodes():
            if isinstance(node, ast.Raise):
                self.assertIn(called_name(node.exc), own, place)
            if isinstance(node, ast.ExceptHandler):
                self.assertIsInstance(node.type, ast.Name, place)
                self.assertIn(node.type.id, own | {"KeyError", "ZeroDivisionError", "StopIteration"}, place)


class FilesTest(unittest.TestCase):
    def setUp(self):
        self.trees = {name[:-3]: ast.parse(text) for name, text in texts().items()}

    def test_only_the_files_of_the_document(self):
        self.assertEqual(sorted(self.trees), ["__init__", "errors", "nets", "notes", "order", "sets"])

    def test_tops_are_plain(self):
        for name, tree in self.trees.items():
            self.assertTrue(is_docstring(tree.body[0]), name)
            for node in tree.body[1:]:
                self.assertIsInstance(node, (ast.ImportFrom, ast.FunctionDef, ast.ClassDef, ast.Assign), name)
                if isinstance(node, ast.Assign):
                    self.assertTrue(is_plain_value(node.value), name)

    def test_each_name_once(self):
        for name, tree in self.trees.items():
            names = top_names(tree) + [word for module, words in drawn_from(tree) for word in words]
            self.assertEqual(len(names), len(set(names)), name)

    def test_imports_come_from_the_file_that_defines_the_name(self):
        for name, tree in self.trees.items():
            for module, words in drawn_from(tree):
                self.assertLessEqual(set(words), set(top_names(self.trees[module])), name)

    def test_imports_are_used(self):
        for name, tree in self.trees.items():
            used = {node.id for node in ast.walk(tree) if isinstance(node, ast.Name)}
            for module, words in drawn_from(tree):
                self.assertLessEqual(set(words), used, name)

    def test_no_two_files_draw_from_one_another(self):
        done = set()
        while len(done) < len(self.trees):
            ready = {name for name, tree in self.trees.items()
                     if all(module in done for module, words in drawn_from(tree))}
            self.assertGreater(len(ready), len(done), sorted(set(self.trees) - done))
            done = ready

    def test_init_binds_nothing(self):
        self.assertEqual(len(self.trees["__init__"].body), 1)

    def test_locals_are_called_like_nothing_else(self):
        for name, tree in self.trees.items():
            taken = set(top_names(tree)) | {word for module, words in drawn_from(tree) for word in words}
            for function in ast.walk(tree):
                if isinstance(function, ast.FunctionDef):
                    for word in local_names(function):
                        self.assertNotIn(word, taken, (name, function.name))
                        self.assertFalse(hasattr(builtins, word), (name, function.name, word))


if __name__ == "__main__":
    unittest.main()
