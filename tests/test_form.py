"""The package's own files keep to the small part of Python that they are to be written in."""

import ast
import builtins
import pathlib
import re
import unittest

PACKAGE = pathlib.Path(__file__).resolve().parent.parent / "exitweave"

BUILTINS = set("""
    len range enumerate zip min max sum abs sorted reversed int str bool list tuple dict set frozenset isinstance ord
    repr any all divmod Exception ValueError TypeError KeyError IndexError LookupError ZeroDivisionError
    ArithmeticError OverflowError RuntimeError NotImplementedError AttributeError StopIteration
""".split())

OWN_METHODS = {"__init__", "__eq__", "__repr__", "__str__", "__len__"}

VALUE_METHODS = set("""
    append clear copy count endswith extend find get index insert isalnum isalpha isdigit islower isspace isupper items
    join keys ljust lower lstrip partition pop remove replace reverse rfind rjust rpartition rsplit rstrip setdefault
    split splitlines startswith strip update upper values zfill bit_length
""".split())

NODES = set("""
    Module Expr Import ImportFrom alias FunctionDef ClassDef arguments arg Lambda Return Assign AugAssign If While For
    Break Continue Pass Raise Try ExceptHandler Constant List Tuple Dict Set Name Load Store Attribute Subscript Slice
    Call keyword BinOp UnaryOp BoolOp Compare IfExp ListComp comprehension JoinedStr FormattedValue
    Add Sub Mult FloorDiv Mod Pow LShift RShift BitOr BitXor BitAnd Invert Not UAdd USub And Or
    Eq NotEq Lt LtE Gt GtE Is IsNot In NotIn
""".split())

NO_WORDS = re.compile(
    r"\b(type|typing|typing_extensions|enum|Enum|IntEnum|StrEnum|Flag|IntFlag|Generic|Protocol|ABC|ABCMeta|namedtuple"
    r"|NamedTuple|TypedDict|TYPE_CHECKING|abstractmethod)\b|dataclass|overload|contextmanager"
)

NO_ATTRIBUTES = set("""
    format format_map mro register elements open input version_info with_traceback add_note
""".split())


def sources():
    return {path.stem: path.read_text(encoding="utf-8") for path in sorted(PACKAGE.glob("*.py"))}


def nodes():
    for stem, source in sources().items():
        for node in ast.walk(ast.parse(source)):
            yield stem, node


def values_of(kind):
    """The names that a class gives to its objects' values."""
    for node in ast.walk(kind):
        if isinstance(node, ast.Attribute) and isinstance(node.ctx, ast.Store):
            yield node.attr


class FilesTest(unittest.TestCase):
    def test_only_plain_files_lie_in_the_package(self):
        for path in PACKAGE.iterdir():
            if path.name != "__pycache__":
                self.assertRegex(path.name, r"^([a-z][a-z0-9_]*|__init__|__main__)\.py$")
        self.assertIn("__init__", sources())

    def test_signs_and_sizes(self):
        for stem, source in sources().items():
            lines = source.split("\n")
            self.assertLessEqual(len(lines) - 1, 400, stem)
            for number, line in enumerate(lines, 1):
                self.assertRegex(line, r"^[ -~]{0,120}$", (stem, number))
                self.assertIsNone(NO_WORDS.search(line), (stem, number))

    def test_functions_are_short(self):
        for stem, node in nodes():
            if isinstance(node, ast.FunctionDef):
                self.assertLessEqual(node.end_lineno - node.lineno + 1, 40, (stem, node.name))


class NodesTest(unittest.TestCase):
    def test_only_plain_forms_stand_there(self):
        for stem, node in nodes():
            where = (stem, getattr(node, "lineno", 0))
            self.assertIn(type(node).__name__, NODES, where)
            self.assertFalse(getattr(node, "decorator_list", []), where)
            if isinstance(node, ast.Try):
                self.assertFalse(node.finalbody, where)
            if isinstance(node, (ast.For, ast.While)):
                self.assertFalse(node.orelse, where)
            if isinstance(node, ast.Assign):
                self.assertEqual(len(node.targets), 1, where)
                self.assertIsInstance(node.targets[0], (ast.Name, ast.Attribute, ast.Subscript), where)
            if isinstance(node, ast.ListComp):
                self.assertEqual(len(node.generators), 1, where)
                self.assertLessEqual(len(node.generators[0].ifs), 1, where)
            if isinstance(node, ast.arguments):
                self.assertFalse(node.vararg or node.kwarg or node.kwonlyargs or node.posonlyargs, where)

    def test_values_are_plain(self):
        for stem, node in nodes():
            if isinstance(node, ast.Constant):
                self.assertIsInstance(node.value, (int, str, bool, type(None)), (stem, node.lineno))
                self.assertNotIn("%", str(node.value), (stem, node.lineno))

    def test_is_stands_beside_none_true_and_false(self):
        for stem, node in nodes():
            if isinstance(node, ast.Compare):
                for sign, right in zip(node.ops, node.comparators):
                    if isinstance(sign, (ast.Is, ast.IsNot)):
                        self.assertTrue(isinstance(right, ast.Constant), (stem, node.lineno))
                        self.assertIn(right.value, (None, True, False), (stem, node.lineno))

    def test_imports_are_the_packages_own_and_lead_round_nowhere(self):
        drawn = {stem: [] for stem in sources()}
        for stem, node in nodes():
            if isinstance(node, ast.Import):
                self.assertEqual((stem, [name.name for name in node.names]), ("__main__", ["sys"]))
            if isinstance(node, ast.ImportFrom):
                self.assertRegex(node.module, r"^exitweave\.[a-z0-9_]+$", stem)
                self.assertEqual(node.level, 0, stem)
                self.assertNotIn("*", [name.name for name in node.names], stem)
                drawn[stem].append(node.module.split(".")[1])
        while drawn:
            free = [stem for stem in drawn if not set(drawn[stem]) & set(drawn)]
            self.assertTrue(free, drawn)
            drawn = {stem: drawn[stem] for stem in drawn if stem not in free}


class NamesTest(unittest.TestCase):
    def test_names_are_plain_and_none_of_pythons_own_is_given_another_meaning(self):
        own = set(dir(builtins))
        for stem, node in nodes():
            where = (stem, getattr(node, "lineno", 0))
            if isinstance(node, ast.Name) and isinstance(node.ctx, ast.Load) and node.id in own:
                self.assertIn(node.id, BUILTINS, where)
            if isinstance(node, ast.Name) and isinstance(node.ctx, ast.Store):
                self.assertRegex(node.id, r"^[A-Za-z][A-Za-z0-9_]*$", where)
                self.assertNotIn(node.id, own, where)
            if isinstance(node, ast.arg):
                self.assertRegex(node.arg, r"^[A-Za-z][A-Za-z0-9_]*$", where)
                self.assertNotIn(node.arg, own, where)
            if isinstance(node, ast.FunctionDef) and node.name not in OWN_METHODS:
                self.assertRegex(node.name, r"^[a-z][a-z0-9_]*$", where)
            if isinstance(node, ast.Attribute):
                self.assertNotIn(node.attr, NO_ATTRIBUTES, where)
                self.assertTrue(node.attr == "__init__" or not node.attr.startswith("_"), where)

    def test_no_local_is_called_like_a_class_or_an_import_of_its_file(self):
        for stem, source in sources().items():
            tree = ast.parse(source)
            taken = {node.name for node in tree.body if isinstance(node, ast.ClassDef)}
            for node in tree.body:
                if isinstance(node, ast.ImportFrom):
                    taken |= {name.name for name in node.names}
            for node in ast.walk(tree):
                if isinstance(node, ast.Name) and isinstance(node.ctx, ast.Store):
                    self.assertNotIn(node.id, taken, (stem, node.lineno))
                if isinstance(node, ast.arg):
                    self.assertNotIn(node.arg, taken, (stem, node.lineno))

    def test_methods_are_the_programs_own_or_among_the_plain_ones(self):
        methods = {node.name for _, node in nodes() if isinstance(node, ast.FunctionDef)}
        for stem, node in nodes():
            if isinstance(node, ast.Call) and isinstance(node.func, ast.Attribute):
                self.assertIn(node.func.attr, methods | VALUE_METHODS, (stem, node.lineno))

    def test_no_name_is_a_method_here_and_a_value_there(self):
        kinds = [node for _, node in nodes() if isinstance(node, ast.ClassDef)]
        methods = {node.name for kind in kinds for node in kind.body if isinstance(node, ast.FunctionDef)}
        values = {name for kind in kinds for name in values_of(kind)}
        self.assertEqual(methods & values, set())


if __name__ == "__main__":
    unittest.main()
