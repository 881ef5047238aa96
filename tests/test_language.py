"""Those rules of LANGUAGE.md that can be seen in the code without much ado."""

import ast
import builtins
import pathlib
import re
import unittest

PACKAGE = pathlib.Path(__file__).resolve().parent.parent / "ropedparty"
FILES = sorted(PACKAGE.glob("*.py"))

# L6 and L7: what the package may be made of.
NODES = """Module Expr Assign AugAssign If While For Return Break Continue Pass Raise Try ExceptHandler
    FunctionDef ClassDef ImportFrom alias arguments arg Lambda Name Attribute Subscript Slice Call keyword
    Constant List Tuple Dict ListComp comprehension IfExp BinOp UnaryOp BoolOp Compare JoinedStr FormattedValue
    Load Store And Or Not USub Add Sub Mult FloorDiv Mod Pow BitAnd BitOr BitXor Invert LShift RShift
    Eq NotEq Lt LtE Gt GtE Is IsNot In NotIn""".split()

# L8, without chr (L27).
OWN_NAMES = """len range enumerate zip min max sum abs sorted reversed int str bool list tuple dict set frozenset
    isinstance ord repr any all divmod Exception ValueError TypeError KeyError IndexError LookupError
    ZeroDivisionError ArithmeticError OverflowError RuntimeError NotImplementedError AttributeError
    StopIteration""".split()

# L17: words that stand nowhere.
WORDS = """type typing typing_extensions enum Enum IntEnum StrEnum Flag IntFlag Generic Protocol ABC ABCMeta
    namedtuple NamedTuple TypedDict TYPE_CHECKING abstractmethod""".split()


# L25: the methods of Python's own values.
METHODS = """append clear copy count endswith extend find get index insert isalnum isalpha isdigit islower isspace
    isupper items join keys ljust lower lstrip partition pop remove replace reverse rfind rjust rpartition rsplit
    rstrip setdefault split splitlines startswith strip update upper values zfill bit_length""".split()


def code(path):
    return path.read_text(encoding="utf-8")


def nodes(path):
    return ast.walk(ast.parse(code(path)))


def bound(node):
    """The names that a node gives a meaning."""
    if isinstance(node, (ast.FunctionDef, ast.ClassDef)):
        return [node.name]
    if isinstance(node, ast.arg):
        return [node.arg]
    if isinstance(node, ast.Name) and isinstance(node.ctx, ast.Store):
        return [node.id]
    return []


def top_names(row):
    """The names that a row at a file's top gives a meaning."""
    if isinstance(row, ast.ImportFrom):
        return [name.asname or name.name for name in row.names]
    if isinstance(row, ast.Assign):
        return bound(row.targets[0])
    return bound(row)


class Language(unittest.TestCase):
    def test_files(self):
        self.assertIn("__init__.py", [path.name for path in FILES])
        others = [p.name for p in PACKAGE.iterdir() if p not in FILES and p.name != "__pycache__"]
        self.assertEqual(others, [])

    def test_signs_and_sizes(self):
        for path in FILES:
            rows = code(path).split("\n")
            self.assertLessEqual(len(rows), 400, path.name)
            for row in rows:
                self.assertRegex(row, r"\A[ -~]{0,120}\Z", path.name)

    def test_words(self):
        for path in FILES:
            for word in re.findall(r"\w+", code(path)):
                self.assertNotIn(word, WORDS, path.name)

    def test_what_it_is_made_of(self):
        for path in FILES:
            for node in nodes(path):
                self.assertIn(node.__class__.__name__, NODES, path.name)
                if isinstance(node, ast.Assign):
                    self.assertEqual(len(node.targets), 1, path.name)
                if isinstance(node, ast.Constant):
                    self.assertIn(node.value.__class__, (int, str, bool, None.__class__), path.name)

    def test_imports(self):
        modules = ["ropedparty." + path.stem for path in FILES]
        for path in FILES:
            for node in nodes(path):
                if isinstance(node, ast.ImportFrom):
                    self.assertEqual(node.level, 0, path.name)
                    self.assertIn(node.module, modules, path.name)

    def test_functions(self):
        for path in FILES:
            for node in nodes(path):
                if isinstance(node, ast.FunctionDef):
                    self.assertLessEqual(node.end_lineno - node.lineno + 1, 40, node.name)
                    self.assertEqual(node.decorator_list, [], node.name)
                    self.assertIsNone(node.args.vararg or node.args.kwarg, node.name)

    def test_names(self):
        for path in FILES:
            for node in nodes(path):
                if isinstance(node, ast.Name) and hasattr(builtins, node.id):
                    self.assertIn(node.id, OWN_NAMES, path.name)
                for name in bound(node):
                    if name != "__init__":
                        self.assertFalse(hasattr(builtins, name), (path.name, name))
                        self.assertRegex(name, r"\A[A-Za-z]\w*\Z", path.name)

    def test_methods(self):
        own = [node.name for path in FILES for node in nodes(path) if isinstance(node, ast.FunctionDef)]
        for path in FILES:
            for node in nodes(path):
                if isinstance(node, ast.Call) and isinstance(node.func, ast.Attribute):
                    self.assertIn(node.func.attr, METHODS + own, path.name)

    def test_is(self):
        for path in FILES:
            for node in nodes(path):
                if isinstance(node, ast.Compare) and isinstance(node.ops[0], (ast.Is, ast.IsNot)):
                    self.assertIn(ast.unparse(node.comparators[0]), ("None", "True", "False"), path.name)

    def test_each_name_once_at_the_top(self):
        for path in FILES:
            top = [name for row in ast.parse(code(path)).body for name in top_names(row)]
            self.assertEqual(len(top), len(set(top)), path.name)

    def test_no_local_is_called_like_an_import_or_a_class(self):
        for path in FILES:
            body = ast.parse(code(path)).body
            taken = [name for row in body if isinstance(row, (ast.ImportFrom, ast.ClassDef)) for name in top_names(row)]
            for node in nodes(path):
                if isinstance(node, (ast.arg, ast.Name)):
                    for name in bound(node):
                        self.assertNotIn(name, taken, path.name)

    def test_imports_come_from_the_file_that_defines_the_name(self):
        drawn = {}
        for path in FILES:
            drawn[path.stem] = []
            for row in ast.parse(code(path)).body:
                if isinstance(row, ast.ImportFrom):
                    source = row.module.split(".")[1]
                    drawn[path.stem].append(source)
                    defined = [name for other in ast.parse(code(PACKAGE / (source + ".py"))).body
                               if not isinstance(other, ast.ImportFrom) for name in top_names(other)]
                    for name in top_names(row):
                        self.assertIn(name, defined, path.name)
        # No two files draw from one another: those that draw from none can be taken off till nothing is left.
        while drawn:
            ready = [stem for stem in drawn if not [source for source in drawn[stem] if source in drawn]]
            self.assertNotEqual(ready, [], drawn)
            drawn = {stem: drawn[stem] for stem in drawn if stem not in ready}


if __name__ == "__main__":
    unittest.main()
