"""Those rules of LANGUAGE.md that can be seen in the code without much ado."""

import ast
import builtins
import pathlib
import re
import unittest

PACKAGE = pathlib.Path(__file__).resolve().parent.parent / "ropedparty"
FILES = sorted(PACKAGE.glob("*.py"))

# L6 and L7: what the package may be made of.
NODES = """Module Expr Assign AugAssign If While For Return Break Continue Pass Raise Try ExceptHandler
    FunctionDef ClassDef ImportFrom alias arguments arg Lambda Name Attribute Subscript Slice Call keyword
    Constant List Tuple Dict ListComp comprehension IfExp BinOp UnaryOp BoolOp Compare JoinedStr FormattedValue
    Load Store And Or Not USub Add Sub Mult FloorDiv Mod Pow BitAnd BitOr BitXor Invert LShift RShift
    Eq NotEq Lt LtE Gt GtE Is IsNot In NotIn""".split()

# L8, without chr (L27).
OWN_NAMES = """len range enumerate zip min max sum abs sorted reversed int str bool list tuple dict set frozenset
    isinstance ord repr any all divmod Exception ValueError TypeError KeyError IndexError LookupError
    ZeroDivisionError ArithmeticError OverflowError RuntimeError NotImplementedError AttributeError
    StopIteration""".split()

# L17: words that stand nowhere.
WORDS = """type typing typing_extensions enum Enum IntEnum StrEnum Flag IntFlag Generic Protocol ABC ABCMeta
    namedtuple NamedTuple TypedDict TYPE_CHECKING abstractmethod""".split()


def code(path):
    return path.read_text(encoding="utf-8")


def nodes(path):
    return ast.walk(ast.parse(code(path)))


def bound(node):
    """The names that a node gives a meaning."""
    if isinstance(node, (ast.FunctionDef, ast.ClassDef)):
        return [node.name]
    if isinstance(node, ast.arg):
        return [node.arg]
    if isinstance(node, ast.Name) and isinstance(node.ctx, ast.Store):
        return [node.id]
    return []


class Language(unittest.TestCase):
    def test_files(self):
        self.assertIn("__init__.py", [path.name for path in FILES])
        others = [p.name for p in PACKAGE.iterdir() if p not in FILES and p.name != "__pycache__"]
        self.assertEqual(others, [])

    def test_signs_and_sizes(self):
        for path in FILES:
            rows = code(path).split("\n")
            self.assertLessEqual(len(rows), 400, path.name)
            for row in rows:
                self.assertRegex(row, r"\A[ -~]{0,120}\Z", path.name)

    def test_words(self):
        for path in FILES:
            for word in re.findall(r"\w+", code(path)):
                self.assertNotIn(word, WORDS, path.name)

    def test_what_it_is_made_of(self):
        for path in FILES:
            for node in nodes(path):
                self.assertIn(node.__class__.__name__, NODES, path.name)
                if isinstance(node, ast.Assign):
                    self.assertEqual(len(node.targets), 1, path.name)
                if isinstance(node, ast.Constant):
                    self.assertIn(node.value.__class__, (int, str, bool, None.__class__), path.name)

    def test_imports(self):
        modules = ["ropedparty." + path.stem for path in FILES]
        for path in FILES:
            for node in nodes(path):
                if isinstance(node, ast.ImportFrom):
                    self.assertEqual(node.level, 0, path.name)
                    self.assertIn(node.module, modules, path.name)

    def test_functions(self):
        for path in FILES:
            for node in nodes(path):
                if isinstance(node, ast.FunctionDef):
                    self.assertLessEqual(node.end_lineno - node.lineno + 1, 40, node.name)
                    self.assertEqual(node.decorator_list, [], node.name)
                    self.assertIsNone(node.args.vararg or node.args.kwarg, node.name)

    def test_names(self):
        for path in FILES:
            for node in nodes(path):
                if isinstance(node, ast.Name) and hasattr(builtins, node.id):
                    self.assertIn(node.id, OWN_NAMES, path.name)
                for name in bound(node):
                    if name != "__init__":
                        self.assertFalse(hasattr(builtins, name), (path.name, name))
                        self.assertRegex(name, r"\A[A-Za-z]\w*\Z", path.name)


if __name__ == "__main__":
    unittest.main()
