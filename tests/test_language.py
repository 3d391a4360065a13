"""The part of Python that the package keeps to, as far as it is quickly looked at.

With it goes what 2 says of clock, chance and files: the package draws from itself alone, and of
Python's own names it uses only some that reach none of these.
"""

import ast
import builtins
import pathlib
import re
import unittest

PACKAGE = pathlib.Path(__file__).resolve().parent.parent / "borderfloor"
ALLOWED = """
len range enumerate zip min max sum abs sorted reversed int str bool list tuple dict set frozenset
isinstance ord repr any all divmod ValueError KeyError IndexError LookupError ZeroDivisionError
StopIteration
""".split()
METHODS = """
append clear copy count endswith extend find get index insert isalnum isalpha isdigit islower isspace
isupper items join keys ljust lower lstrip partition pop remove replace reverse rfind rjust rpartition
rsplit rstrip setdefault split splitlines startswith strip update upper values zfill bit_length
""".split()
NODES = """
Module Expr Constant ImportFrom alias FunctionDef ClassDef arguments arg Return Assign AugAssign For While
If Raise Try ExceptHandler Break Continue Pass Load Store Name Attribute Subscript Slice Call keyword
Tuple List Dict ListComp comprehension BinOp UnaryOp BoolOp Compare IfExp Lambda JoinedStr FormattedValue
Add Sub Mult FloorDiv Mod Pow BitAnd BitOr BitXor LShift RShift Invert UAdd USub Not And Or
Eq NotEq Lt LtE Gt GtE In NotIn Is IsNot
""".split()
WORDS = re.compile(
    r"\b(type|typing|typing_extensions|enum|Enum|IntEnum|StrEnum|Flag|IntFlag|Generic|Protocol|ABC|ABCMeta|"
    r"namedtuple|NamedTuple|TypedDict|TYPE_CHECKING|abstractmethod)\b|dataclass|overload|contextmanager"
)
KEYWORDS = {
    "sorted": ("key", "reverse"),
    "min": ("key", "default"),
    "max": ("key", "default"),
    "sum": ("start",),
    "enumerate": ("start",),
    "zip": ("strict",),
}
WALKED = ("zip", "enumerate", "reversed", "range")
WALKERS = ("list", "tuple", "dict", "sorted", "sum", "any", "all", "enumerate", "zip", "min", "max")
KEPT = ("elements", "register", "input", "version_info", "mro", "format", "format_map", "args", "encode")


def files():
    return sorted(path for path in PACKAGE.rglob("*") if "__pycache__" not in path.parts)


def tree(path):
    return ast.parse(path.read_text("utf-8"))


def nodes(path):
    return ast.walk(tree(path))


def all_nodes(*kinds):
    return [(path.name, node) for path in files() for node in nodes(path) if isinstance(node, kinds)]


def imported(path):
    return [node for node in nodes(path) if isinstance(node, (ast.Import, ast.ImportFrom))]


def top_names(path):
    """The names bound at a file's top, but those that are drawn from other files."""
    found = []
    for node in tree(path).body:
        if isinstance(node, (ast.FunctionDef, ast.ClassDef)):
            found.append(node.name)
        if isinstance(node, ast.Assign):
            found.append(node.targets[0].id)
    return found


def is_call_of(node, names):
    return isinstance(node, ast.Call) and isinstance(node.func, ast.Name) and node.func.id in names


class LanguageTest(unittest.TestCase):
    def test_files(self):
        self.assertIn(PACKAGE / "__init__.py", files())
        for path in files():
            self.assertRegex(path.name, r"\A([a-z][a-z0-9_]*|__init__)\.py\Z")
            self.assertEqual(path.parent, PACKAGE)
            self.assertNotIn(path.stem, dir(builtins))

    def test_signs_and_lengths(self):
        for path in files():
            text = path.read_bytes().decode("ascii")
            self.assertRegex(text, r"\A[ -~\n]*\Z")
            self.assertLessEqual(len(text.split("\n")), 400, path)
            self.assertLessEqual(max(len(row) for row in text.split("\n")), 120, path)
            self.assertIsNone(WORDS.search(text), path)

    def test_functions_are_small_and_plain(self):
        for name, node in all_nodes(ast.FunctionDef):
            self.assertLessEqual(node.end_lineno - node.lineno + 1, 40, node.name)
            self.assertEqual(node.decorator_list + node.args.kwonlyargs, [], node.name)
            self.assertEqual((node.args.vararg, node.args.kwarg), (None, None), node.name)
            self.assertEqual([arg.annotation for arg in node.args.args if arg.annotation], [], node.name)
            self.assertIsNone(node.returns, node.name)

    def test_no_other_forms(self):
        for name, node in all_nodes(ast.AST):
            self.assertIn(node.__class__.__name__, NODES, (name, getattr(node, "lineno", None)))

    def test_the_top_of_a_file(self):
        for path in files():
            self.assertIsInstance(tree(path).body[0].value, ast.Constant)
            for node in tree(path).body[1:]:
                self.assertIsInstance(node, (ast.ImportFrom, ast.FunctionDef, ast.ClassDef, ast.Assign))
                if isinstance(node, ast.Assign):
                    value = ast.literal_eval(node.value)
                    if isinstance(value, (list, dict)):
                        inner = value.values() if isinstance(value, dict) else value
                        self.assertFalse(any(isinstance(thing, (list, dict, set)) for thing in inner))
            bound = top_names(path) + [name.name for node in imported(path) for name in node.names]
            self.assertEqual(len(bound), len(set(bound)), path)

    def test_classes(self):
        methods = []
        for name, node in all_nodes(ast.ClassDef):
            self.assertLessEqual(len(node.bases), 1)
            self.assertEqual(node.decorator_list + node.keywords, [])
            for part in node.body:
                self.assertIsInstance(part, (ast.FunctionDef, ast.Pass))
            own = [part.name for part in node.body if isinstance(part, ast.FunctionDef)]
            self.assertEqual(len(own), len(set(own)))
            self.assertEqual([each for each in own if each.startswith("_") and each != "__init__"], [])
            methods.extend(own)
        for name, node in all_nodes(ast.Attribute):
            if isinstance(node.ctx, ast.Store):
                self.assertNotIn(node.attr, methods)

    def test_statements(self):
        for name, node in all_nodes(ast.Assign):
            self.assertEqual(len(node.targets), 1)
        for name, node in all_nodes(ast.For, ast.While):
            self.assertEqual(node.orelse, [])
        for name, node in all_nodes(ast.Expr):
            self.assertIsInstance(node.value, (ast.Call, ast.Constant))
        for name, node in all_nodes(ast.Try):
            self.assertEqual(node.finalbody, [])
        for name, node in all_nodes(ast.Raise):
            self.assertIsInstance(node.exc, ast.Call)

    def test_expressions(self):
        for name, node in all_nodes(ast.ListComp):
            self.assertEqual(len(node.generators), 1)
            self.assertLessEqual(len(node.generators[0].ifs), 1)
        for name, node in all_nodes(ast.FormattedValue):
            self.assertIsInstance(node.value, ast.Name)
            self.assertIsNone(node.format_spec)
        for name, node in all_nodes(ast.Constant):
            self.assertIn(node.value.__class__.__name__, ("int", "str", "bool", "NoneType"))
            self.assertNotIn("%", str(node.value))
        for name, node in all_nodes(ast.Compare):
            for sign, value in zip(node.ops, node.comparators):
                if isinstance(sign, (ast.Is, ast.IsNot)):
                    self.assertIsInstance(value, ast.Constant)
        for name, node in all_nodes(ast.Pow):
            self.fail("no power is written")

    def test_draws_from_the_package_alone(self):
        stems = ["borderfloor." + path.stem for path in files()]
        for path in files():
            for node in imported(path):
                self.assertIsInstance(node, ast.ImportFrom)
                self.assertEqual(node.level, 0)
                self.assertIn(node.module, stems)
                there = top_names(PACKAGE / (node.module.split(".")[1] + ".py"))
                for name in node.names:
                    self.assertIn(name.name, there)
                    self.assertIsNone(name.asname)

    def test_no_two_files_draw_from_one_another(self):
        drawn = {path.stem: {node.module.split(".")[1] for node in imported(path)} for path in files()}
        while drawn:
            free = [stem for stem in drawn if not drawn[stem] & set(drawn)]
            self.assertNotEqual(free, [], drawn)
            drawn = {stem: others for stem, others in drawn.items() if stem not in free}

    def test_what_is_drawn_is_used(self):
        for path in files():
            used = [node.id for node in nodes(path) if isinstance(node, ast.Name)]
            for node in imported(path):
                for name in node.names:
                    self.assertIn(name.name, used, path)

    def test_names(self):
        own = vars(builtins)
        for path in files():
            drawn = [name.name for node in imported(path) for name in node.names]
            classes = [node.name for node in nodes(path) if isinstance(node, ast.ClassDef)]
            for node in nodes(path):
                if isinstance(node, ast.Name):
                    self.assertFalse(node.id.startswith("_"), node.id)
                    if node.id in own:
                        self.assertIn(node.id, ALLOWED)
                        self.assertIsInstance(node.ctx, ast.Load)
                    if isinstance(node.ctx, ast.Store):
                        self.assertNotIn(node.id, drawn + classes)
                elif isinstance(node, ast.arg):
                    self.assertFalse(node.arg.startswith("_"), node.arg)
                    self.assertNotIn(node.arg, own)
                    self.assertNotIn(node.arg, drawn + classes)
                elif isinstance(node, ast.Attribute):
                    self.assertNotIn(node.attr, KEPT)

    def test_methods_of_pythons_own_values(self):
        known = [name for kind in (str, int, list, dict, tuple, set, bytes) for name in dir(kind)]
        for name, node in all_nodes(ast.Attribute):
            if node.attr in known and node.attr != "__init__":
                self.assertIn(node.attr, METHODS)

    def test_pythons_own_as_they_are_called(self):
        for path in files():
            known = list(nodes(path))
            called = [node.func for node in known if isinstance(node, ast.Call)]
            for node in known:
                if isinstance(node, ast.Name) and node.id in ALLOWED and node.id[0].islower():
                    self.assertTrue(any(node is other for other in called), (path, node.lineno))
                if isinstance(node, ast.Call) and node.keywords:
                    self.assertIsInstance(node.func, ast.Name)
                    for keyword in node.keywords:
                        self.assertIn(keyword.arg, KEYWORDS.get(node.func.id, ()))

    def test_walked_at_once_and_no_sets(self):
        for path in files():
            known = list(nodes(path))
            walked = []
            for node in known:
                if isinstance(node, (ast.For, ast.comprehension)):
                    walked.append(node.iter)
                if is_call_of(node, WALKERS):
                    walked.extend(node.args)
            for node in known:
                if is_call_of(node, WALKED):
                    self.assertTrue(any(node is other for other in walked), (path, node.lineno))
                self.assertFalse(is_call_of(node, ("set", "frozenset")), path)


if __name__ == "__main__":
    unittest.main()
