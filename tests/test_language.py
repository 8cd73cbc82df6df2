"""The package keeps to the part of Python that is told in ../shared/LANGUAGE.md.

Not each rule can be seen from here, but those that a slip breaks most easily.
"""

import ast
import builtins
import pathlib
import re
import unittest

PACKAGE = pathlib.Path(__file__).resolve().parent.parent / "sharedrooms"
FILES = sorted(PACKAGE.glob("*.py"))

BUILT_IN = set(
    "len range enumerate zip min max sum abs sorted reversed int str bool list tuple dict set frozenset isinstance "
    "ord repr any all divmod Exception ValueError TypeError KeyError IndexError LookupError ZeroDivisionError "
    "ArithmeticError OverflowError RuntimeError NotImplementedError AttributeError StopIteration".split()
)
METHODS = set(
    "append clear copy count endswith extend find get index insert isalnum isalpha isdigit islower isspace isupper "
    "items join keys ljust lower lstrip partition pop remove replace reverse rfind rjust rpartition rsplit rstrip "
    "setdefault split splitlines startswith strip update upper values zfill bit_length __init__".split()
)
WORDS_OUT = re.compile(
    r"\b(type|typing|typing_extensions|enum|Enum|IntEnum|StrEnum|Flag|IntFlag|Generic|Protocol|ABC|ABCMeta|namedtuple|"
    r"NamedTuple|TypedDict|TYPE_CHECKING|abstractmethod)\b|dataclass|overload|contextmanager"
)
NAMES_OUT = set("register mro elements open input version_info with_traceback add_note format format_map chr".split())
STATEMENTS = (
    ast.Module, ast.FunctionDef, ast.ClassDef, ast.ImportFrom, ast.Assign, ast.AugAssign, ast.If, ast.While, ast.For,
    ast.Return, ast.Break, ast.Continue, ast.Pass, ast.Raise, ast.Try, ast.ExceptHandler, ast.Expr,
)
EXPRESSIONS = (
    ast.Constant, ast.Name, ast.Attribute, ast.Subscript, ast.Slice, ast.Call, ast.keyword, ast.List, ast.Tuple,
    ast.Dict, ast.BinOp, ast.UnaryOp, ast.BoolOp, ast.Compare, ast.IfExp, ast.ListComp, ast.comprehension, ast.Lambda,
    ast.JoinedStr, ast.FormattedValue, ast.arguments, ast.arg, ast.alias, ast.expr_context, ast.boolop, ast.unaryop,
    ast.cmpop, ast.operator,
)


def nodes():
    for path in FILES:
        for node in ast.walk(ast.parse(path.read_text("utf-8"))):
            yield path.name, node


def bound_names(tree):
    for node in ast.walk(tree):
        if isinstance(node, ast.arg):
            yield node.arg
        elif isinstance(node, ast.Name) and isinstance(node.ctx, ast.Store):
            yield node.id
        elif isinstance(node, ast.ExceptHandler) and node.name is not None:
            yield node.name


class LanguageTest(unittest.TestCase):
    def test_files(self):
        for path in PACKAGE.iterdir():
            self.assertTrue(path in FILES or path.name == "__pycache__", path)
        for path in FILES:
            text = path.read_text("utf-8")
            self.assertIsNone(re.search(r"[^\n -~]", text), path)
            self.assertIsNone(WORDS_OUT.search(text), path)
            self.assertLessEqual(len(text.splitlines()), 400, path)
            self.assertLessEqual(max(len(line) for line in text.splitlines()), 120, path)

    def test_functions_are_short(self):
        for name, node in nodes():
            if isinstance(node, ast.FunctionDef):
                self.assertLessEqual(node.end_lineno - node.lineno + 1, 40, (name, node.name))

    def test_forms(self):
        for name, node in nodes():
            place = (name, getattr(node, "lineno", 0), ast.dump(node)[:80])
            self.assertIsInstance(node, STATEMENTS + EXPRESSIONS, place)
            self.assertNotIsInstance(node, (ast.Div, ast.MatMult), place)
            if isinstance(node, ast.Assign):
                self.assertEqual(len(node.targets), 1, place)
                self.assertNotIsInstance(node.targets[0], (ast.Tuple, ast.List, ast.Starred), place)
            if isinstance(node, (ast.For, ast.While)):
                self.assertEqual(node.orelse, [], place)
            if isinstance(node, ast.Try):
                self.assertEqual(node.finalbody, [], place)
            if isinstance(node, (ast.FunctionDef, ast.ClassDef)):
                self.assertEqual(node.decorator_list, [], place)
            if isinstance(node, ast.Constant):
                self.assertIn(type(node.value), (int, str, bool, type(None)), place)
            if isinstance(node, ast.comprehension):
                self.assertLessEqual(len(node.ifs), 1, place)
            if isinstance(node, ast.ListComp):
                self.assertEqual(len(node.generators), 1, place)

    def test_imports(self):
        for name, node in nodes():
            if isinstance(node, ast.ImportFrom):
                self.assertEqual(node.level, 0, name)
                source = PACKAGE / (node.module.removeprefix("sharedrooms.") + ".py")
                self.assertIn(source, FILES, name)
                tree = ast.parse(source.read_text("utf-8"))
                defined = [d.name for d in tree.body if isinstance(d, (ast.FunctionDef, ast.ClassDef))]
                for alias in node.names:
                    self.assertIn(alias.name, defined, name)

    def test_names(self):
        for path in FILES:
            tree = ast.parse(path.read_text("utf-8"))
            imported = [a.name for n in tree.body if isinstance(n, ast.ImportFrom) for a in n.names]
            classes = [n.name for n in tree.body if isinstance(n, ast.ClassDef)]
            for name in bound_names(tree):
                self.assertFalse(name.startswith("_") or hasattr(builtins, name), (path.name, name))
                self.assertFalse(name in imported or name in classes or name in NAMES_OUT, (path.name, name))
            for node in ast.walk(tree):
                if isinstance(node, ast.Name) and hasattr(builtins, node.id):
                    self.assertIn(node.id, BUILT_IN, (path.name, node.lineno))

    def test_methods_and_values(self):
        methods, values = set(), set()
        for name, node in nodes():
            if isinstance(node, ast.ClassDef):
                methods |= {part.name for part in node.body if isinstance(part, ast.FunctionDef)}
            if isinstance(node, ast.Attribute) and isinstance(node.ctx, ast.Store):
                values.add(node.attr)
        self.assertEqual(methods & values, set())
        pythons = {name for kind in (str, int, list, dict, set, bytes) for name in dir(kind)}
        self.assertEqual((methods | values) & (pythons | NAMES_OUT) - {"__init__"}, set())
        for name, node in nodes():
            if isinstance(node, ast.Attribute):
                self.assertIn(node.attr, methods | values | METHODS, (name, node.lineno))

    def test_top_of_a_module(self):
        for path in FILES:
            tree = ast.parse(path.read_text("utf-8"))
            self.assertIsNotNone(ast.get_docstring(tree), path)
            for node in tree.body[1:]:
                self.assertIsInstance(node, (ast.ImportFrom, ast.FunctionDef, ast.ClassDef, ast.Assign), path)
                if isinstance(node, ast.Assign):
                    ast.literal_eval(node.value)


if __name__ == "__main__":
    unittest.main()
