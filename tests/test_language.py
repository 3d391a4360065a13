"""The part of Python that the package keeps to, as far as it is quickly looked at.

With it goes what 2 says of clock, chance and files: the package draws from itself alone, and of
Python's own names it uses only some that reach none of these.
"""

import ast
import builtins
import pathlib
import re
import unittest

PACKAGE = pathlib.Path(__file__).resolve().parent.parent / "borderfloor"
ALLOWED = """
len range enumerate zip min max sum abs sorted reversed int str bool list tuple dict set frozenset
isinstance ord repr any all divmod ValueError KeyError IndexError LookupError ZeroDivisionError
StopIteration
""".split()
METHODS = """
append clear copy count endswith extend find get index insert isalnum isalpha isdigit islower isspace
isupper items join keys ljust lower lstrip partition pop remove replace reverse rfind rjust rpartition
rsplit rstrip setdefault split splitlines startswith strip update upper values zfill bit_length
""".split()
NODES = """
Module Expr Constant ImportFrom alias FunctionDef ClassDef arguments arg Return Assign AugAssign For While
If Raise Try ExceptHandler Break Continue Pass Load Store Name Attribute Subscript Slice Call keyword
Tuple List Dict ListComp comprehension BinOp UnaryOp BoolOp Compare IfExp Lambda JoinedStr FormattedValue
Add Sub Mult FloorDiv Mod Pow BitAnd BitOr BitXor LShift RShift Invert UAdd USub Not And Or
Eq NotEq Lt LtE Gt GtE In NotIn Is IsNot
""".split()
WORDS = re.compile(
    r"\b(type|typing|typing_extensions|enum|Enum|IntEnum|StrEnum|Flag|IntFlag|Generic|Protocol|ABC|ABCMeta|"
    r"namedtuple|NamedTuple|TypedDict|TYPE_CHECKING|abstractmethod)\b|dataclass|overload|contextmanager"
)


def files():
    return sorted(path for path in PACKAGE.rglob("*") if "__pycache__" not in path.parts)


def nodes(path):
    return ast.walk(ast.parse(path.read_text("utf-8")))


def imported(path):
    return [node for node in nodes(path) if isinstance(node, (ast.Import, ast.ImportFrom))]


class LanguageTest(unittest.TestCase):
    def test_files(self):
        self.assertIn(PACKAGE / "__init__.py", files())
        for path in files():
            self.assertRegex(path.name, r"\A([a-z][a-z0-9_]*|__init__)\.py\Z")
            self.assertEqual(path.parent, PACKAGE)

    def test_signs_and_lengths(self):
        for path in files():
            text = path.read_bytes().decode("ascii")
            self.assertRegex(text, r"\A[ -~\n]*\Z")
            self.assertLessEqual(len(text.split("\n")), 400, path)
            self.assertLessEqual(max(len(row) for row in text.split("\n")), 120, path)
            self.assertIsNone(WORDS.search(text), path)

    def test_functions_are_small_and_plain(self):
        for path in files():
            for node in nodes(path):
                if isinstance(node, ast.FunctionDef):
                    self.assertLessEqual(node.end_lineno - node.lineno + 1, 40, node.name)
                    self.assertEqual(node.decorator_list + node.args.kwonlyargs, [], node.name)
                    self.assertEqual((node.args.vararg, node.args.kwarg), (None, None), node.name)

    def test_no_other_forms(self):
        for path in files():
            for node in nodes(path):
                self.assertIn(node.__class__.__name__, NODES, (path, getattr(node, "lineno", None)))

    def test_draws_from_the_package_alone(self):
        stems = ["borderfloor." + path.stem for path in files()]
        for path in files():
            for node in imported(path):
                self.assertIsInstance(node, ast.ImportFrom)
                self.assertEqual(node.level, 0)
                self.assertIn(node.module, stems)
                for name in node.names:
                    self.assertNotEqual(name.name, "*")

    def test_names(self):
        own = vars(builtins)
        for path in files():
            for node in nodes(path):
                if isinstance(node, ast.Name):
                    self.assertFalse(node.id.startswith("_"), node.id)
                    if node.id in own:
                        self.assertIn(node.id, ALLOWED)
                        self.assertIsInstance(node.ctx, ast.Load)
                elif isinstance(node, ast.arg):
                    self.assertNotIn(node.arg, own)

    def test_methods_of_pythons_own_values(self):
        known = [name for kind in (str, int, list, dict, tuple, set, bytes) for name in dir(kind)]
        for path in files():
            for node in nodes(path):
                if isinstance(node, ast.Attribute) and node.attr in known and node.attr != "__init__":
                    self.assertIn(node.attr, METHODS)


if __name__ == "__main__":
    unittest.main()
