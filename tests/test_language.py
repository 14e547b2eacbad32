"""The package keeps to its small part of the language, so far as a plain look can see it."""

import ast
import builtins
import re
import unittest
from pathlib import Path

PACKAGE = Path(__file__).resolve().parent.parent / "matesquare"
FILES = sorted(path for path in PACKAGE.rglob("*") if "__pycache__" not in path.parts)

NODES = """
    Module Expr ImportFrom alias FunctionDef arguments arg ClassDef Lambda Return Assign AugAssign If While For
    Break Continue Pass Raise Try ExceptHandler Constant Name Load Store Attribute Subscript Slice Call keyword
    BinOp Add Sub Mult FloorDiv Mod Pow BitAnd BitOr BitXor LShift RShift UnaryOp Not USub Invert BoolOp And Or
    Compare Eq NotEq Lt LtE Gt GtE In NotIn Is IsNot IfExp List Tuple Dict ListComp comprehension
    JoinedStr FormattedValue
""".split()
OWN_NAMES = """
    len range enumerate zip min max sum abs sorted reversed int str bool list tuple dict set frozenset isinstance
    ord repr any all divmod Exception ValueError TypeError KeyError IndexError LookupError ZeroDivisionError
    ArithmeticError OverflowError RuntimeError NotImplementedError AttributeError StopIteration
""".split()
METHODS = """
    append clear copy count endswith extend find get index insert isalnum isalpha isdigit islower isspace isupper
    items join keys ljust lower lstrip partition pop remove replace reverse rfind rjust rpartition rsplit rstrip
    setdefault split splitlines startswith strip update upper values zfill bit_length
""".split()
WORDS = re.compile(
    r"\b(type|typing|typing_extensions|enum|Enum|IntEnum|StrEnum|Flag|IntFlag|Generic|Protocol|ABC|ABCMeta"
    r"|namedtuple|NamedTuple|TypedDict|TYPE_CHECKING|abstractmethod)\b|dataclass|overload|contextmanager"
)


def nodes_of(path):
    return list(ast.walk(ast.parse(path.read_text(encoding="utf-8"))))


class Language(unittest.TestCase):
    def test_only_plain_files_lie_in_the_package(self):
        self.assertIn(PACKAGE / "__init__.py", FILES)
        for path in FILES:
            self.assertRegex(path.name, r"^(__init__|[a-z][a-z0-9_]*)\.py$")

    def test_signs_words_and_lengths(self):
        for path in FILES:
            text = path.read_text(encoding="utf-8")
            with self.subTest(file=path.name):
                self.assertRegex(text, r"\A[ -~\n]*\Z")
                self.assertIsNone(WORDS.search(text))
                self.assertLessEqual(len(text.splitlines()), 400)
                self.assertLessEqual(max(len(line) for line in text.splitlines()), 120)

    def test_only_plain_steps(self):
        for path in FILES:
            for node in nodes_of(path):
                with self.subTest(file=path.name, line=getattr(node, "lineno", 0)):
                    self.assertIn(node.__class__.__name__, NODES)
                    if isinstance(node, ast.Constant):
                        self.assertNotIsInstance(node.value, (float, complex, bytes))
                    if isinstance(node, ast.FunctionDef):
                        self.assertLessEqual(node.end_lineno - node.lineno + 1, 40)
                        self.assertEqual(node.decorator_list, [])
                        self.assertIsNone(node.args.vararg or node.args.kwarg)

    def test_only_plain_names(self):
        for path in FILES:
            for node in nodes_of(path):
                with self.subTest(file=path.name, line=getattr(node, "lineno", 0)):
                    if isinstance(node, ast.Name) and hasattr(builtins, node.id):
                        self.assertIn(node.id, OWN_NAMES)
                        self.assertIsInstance(node.ctx, ast.Load)
                    if isinstance(node, ast.Name):
                        self.assertFalse(node.id.startswith("_"))
                    if isinstance(node, ast.arg):
                        self.assertFalse(hasattr(builtins, node.arg) or node.arg.startswith("_"))
                    if isinstance(node, ast.Attribute):
                        self.assertIn(node.attr, METHODS)

    def test_only_own_modules_are_imported(self):
        for path in FILES:
            for node in nodes_of(path):
                if isinstance(node, ast.ImportFrom):
                    self.assertEqual(node.level, 0)
                    self.assertRegex(node.module, r"^matesquare\.[a-z]+$")


if __name__ == "__main__":
    unittest.main()
