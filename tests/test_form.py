"""The package's own files keep to the small part of Python in which the program is written."""

import ast
import builtins
import pathlib
import re
import unittest

PACKAGE = pathlib.Path(__file__).resolve().parent.parent / "nighthands"

NODES = """Module Expr Constant ImportFrom alias FunctionDef arguments arg ClassDef Return Assign AugAssign If While For
Break Continue Pass Raise Try ExceptHandler Call Name Load Store Attribute Subscript Slice BinOp UnaryOp BoolOp Compare
IfExp List Tuple Dict ListComp comprehension Lambda keyword JoinedStr FormattedValue Add Sub Mult FloorDiv Mod Pow
BitAnd BitOr BitXor LShift RShift Invert Not USub And Or Eq NotEq Lt LtE Gt GtE In NotIn Is IsNot""".split()

BUILT_IN = """len range enumerate zip min max sum abs sorted reversed int str bool list tuple dict set frozenset isinstance
ord repr any all divmod Exception ValueError TypeError KeyError IndexError LookupError ZeroDivisionError
ArithmeticError OverflowError RuntimeError NotImplementedError""".split()

METHODS = """append clear copy count endswith extend find get index insert isalnum isalpha isdigit islower isspace isupper
items join keys ljust lower lstrip partition pop remove replace reverse rfind rjust rpartition rsplit rstrip setdefault
split splitlines startswith strip update upper values zfill bit_length""".split()

WORDS = """type typing typing_extensions enum Enum IntEnum StrEnum Flag IntFlag Generic Protocol ABC ABCMeta namedtuple
NamedTuple TypedDict TYPE_CHECKING abstractmethod""".split()


def files():
    return sorted(path for path in PACKAGE.iterdir() if path.name != "__pycache__")


def trees():
    return [(path, ast.parse(path.read_text("ascii"))) for path in files()]


class Form(unittest.TestCase):
    def test_only_plain_python_files(self):
        self.assertIn("__init__.py", [path.name for path in files()])
        for path in files():
            self.assertRegex(path.name, r"^(__init__|[a-z][a-z0-9_]*)\.py$")

    def test_size_and_signs(self):
        for path in files():
            with self.subTest(path=path.name):
                text = path.read_text("ascii")
                self.assertRegex(text, r"\A[ -~\n]*\n\Z")
                self.assertLessEqual(text.count("\n"), 400)
                self.assertLessEqual(max(len(row) for row in text.split("\n")), 120)

    def test_words(self):
        for path in files():
            words = set(re.findall(r"\w+", path.read_text("ascii")))
            self.assertEqual(words & set(WORDS), set(), path.name)
            self.assertNotRegex(path.read_text("ascii"), "dataclass|overload|contextmanager")

    def test_statements_and_expressions(self):
        for path, tree in trees():
            for node in ast.walk(tree):
                with self.subTest(path=path.name, line=getattr(node, "lineno", 0)):
                    self.assertIn(node.__class__.__name__, NODES)
                    if isinstance(node, ast.FunctionDef):
                        self.assertLessEqual(node.end_lineno - node.lineno + 1, 40)
                    if isinstance(node, ast.Constant):
                        self.assertNotIsInstance(node.value, (float, bytes, complex))
                    if isinstance(node, ast.Assign):
                        self.assertEqual(len(node.targets), 1)
                        self.assertNotIsInstance(node.targets[0], ast.Tuple)

    def test_imports_are_the_package_s_own(self):
        for path, tree in trees():
            for node in ast.walk(tree):
                if isinstance(node, ast.ImportFrom):
                    self.assertEqual(node.level, 0)
                    self.assertRegex(node.module, r"^nighthands\.[a-z_]+$", path.name)
                    self.assertTrue(all(name.name != "*" and name.asname is None for name in node.names))

    def test_names(self):
        for path, tree in trees():
            for node in ast.walk(tree):
                if isinstance(node, ast.Name):
                    self.assertRegex(node.id, r"^[A-Za-z][A-Za-z0-9_]*$")
                    if node.id in dir(builtins):
                        self.assertIn(node.id, BUILT_IN, path.name)

    def test_methods(self):
        own = {node.name for path, tree in trees() for node in ast.walk(tree) if isinstance(node, ast.FunctionDef)}
        for path, tree in trees():
            for node in ast.walk(tree):
                if isinstance(node, ast.Call) and isinstance(node.func, ast.Attribute):
                    self.assertIn(node.func.attr, own | set(METHODS), path.name)


if __name__ == "__main__":
    unittest.main()
