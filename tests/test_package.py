"""What holds of the package's files as they are written: no clock, no chance, no files, the plain language."""

import ast
import builtins
import pathlib
import re
import unittest

PACKAGE = pathlib.Path(__file__).resolve().parent.parent / "runbound"
OWN_NAMES = (
    "len range enumerate zip min max sum abs sorted reversed int str bool bytes list tuple dict set frozenset "
    "isinstance ord repr any all divmod Exception ValueError TypeError KeyError IndexError LookupError "
    "ZeroDivisionError ArithmeticError OverflowError RuntimeError NotImplementedError AttributeError StopIteration"
).split()
OUT_OF_THE_LANGUAGE = (
    ast.With, ast.Match, ast.Global, ast.Nonlocal, ast.Yield, ast.YieldFrom, ast.Await, ast.AsyncFunctionDef,
    ast.AsyncFor, ast.AsyncWith, ast.GeneratorExp, ast.NamedExpr, ast.Div, ast.Import,
)
WORDS_OUT = re.compile(
    r"\b(type|typing|typing_extensions|enum|Enum|IntEnum|StrEnum|Flag|IntFlag|Generic|Protocol|ABC|ABCMeta"
    r"|namedtuple|NamedTuple|TypedDict|TYPE_CHECKING|abstractmethod)\b|dataclass|overload|contextmanager"
)
PLAIN_NAME = re.compile(r"[A-Za-z][A-Za-z0-9_]*")


def files():
    return sorted(PACKAGE.rglob("*.py"))


def trees():
    return [(path.name, ast.parse(path.read_text("utf-8"))) for path in files()]


def nodes():
    return [(name, node) for name, tree in trees() for node in ast.walk(tree)]


class NothingFromOutside(unittest.TestCase):
    def test_there_are_files(self):
        wanted = (
            "__init__ errors rows bounds machines kinds counting growth weights tables joints writers splitting "
            "windows sums stuffing"
        ).split()
        self.assertLessEqual({name + ".py" for name in wanted}, {path.name for path in files()})

    def test_only_own_modules_are_drawn_in(self):
        for name, node in nodes():
            self.assertNotIsInstance(node, ast.Import, name)
            if isinstance(node, ast.ImportFrom):
                self.assertEqual(0, node.level, name)
                self.assertTrue(node.module.startswith("runbound."), (name, node.module))

    def test_only_the_listed_names_of_python_are_used(self):
        for name, node in nodes():
            if isinstance(node, ast.Name) and hasattr(builtins, node.id):
                self.assertIn(node.id, OWN_NAMES, (name, node.lineno))

    def test_no_way_round_by_attributes(self):
        for name, node in nodes():
            if isinstance(node, ast.Attribute) and node.attr.startswith("_"):
                self.assertEqual("__init__", node.attr, (name, node.lineno))


class ThePlainLanguage(unittest.TestCase):
    def test_nothing_else_lies_in_the_package(self):
        for path in PACKAGE.rglob("*"):
            if "__pycache__" not in path.parts and path.is_file():
                self.assertEqual(".py", path.suffix, path)

    def test_signs_and_words(self):
        for path in files():
            text = path.read_bytes().decode("ascii")
            self.assertTrue(all(sign == "\n" or " " <= sign <= "~" for sign in text), path)
            self.assertIsNone(WORDS_OUT.search(text), path)

    def test_size(self):
        for path in files():
            lines = path.read_text("utf-8").splitlines()
            self.assertLessEqual(len(lines), 400, path)
            self.assertLessEqual(max(map(len, lines), default=0), 120, path)
        for name, node in nodes():
            if isinstance(node, ast.FunctionDef):
                self.assertLessEqual(node.end_lineno - node.lineno + 1, 40, (name, node.name))

    def test_statements_and_expressions(self):
        for name, node in nodes():
            self.assertNotIsInstance(node, OUT_OF_THE_LANGUAGE, name)
            if isinstance(node, (ast.FunctionDef, ast.ClassDef)):
                self.assertEqual([], node.decorator_list, (name, node.name))
            if isinstance(node, ast.Constant):
                self.assertNotIsInstance(node.value, (float, complex), name)

    def test_names(self):
        for name, node in nodes():
            given = []
            if isinstance(node, ast.Name):
                given = [node.id]
            elif isinstance(node, (ast.FunctionDef, ast.ClassDef)) and node.name != "__init__":
                given = [node.name]
            elif isinstance(node, ast.arg):
                given = [node.arg]
                self.assertFalse(hasattr(builtins, node.arg), (name, node.arg))
            for each in given:
                self.assertIsNotNone(PLAIN_NAME.fullmatch(each), (name, each))
            if isinstance(node, ast.Name) and isinstance(node.ctx, ast.Store):
                self.assertFalse(hasattr(builtins, node.id), (name, node.id))


if __name__ == "__main__":
    unittest.main()
