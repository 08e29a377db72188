"""The package keeps to the small part of Python that it is written in: the rules that can be told from its files."""

import ast
import builtins
import pathlib
import re
import unittest

PACKAGE = pathlib.Path(__file__).resolve().parent.parent / "seektree"

NODES = """
    Module Expr Constant ImportFrom alias FunctionDef arguments arg Lambda ClassDef Load Store Name Assign AugAssign If
    While For Return Break Continue Pass Raise Try ExceptHandler Call keyword Attribute Subscript Slice List Tuple Dict
    ListComp comprehension IfExp BinOp UnaryOp BoolOp Compare JoinedStr FormattedValue Add Sub Mult FloorDiv Mod Pow
    BitAnd BitOr BitXor Invert LShift RShift USub UAdd Not And Or Eq NotEq Lt LtE Gt GtE Is IsNot In NotIn
""".split()

BUILTINS = """
    len range enumerate zip min max sum abs sorted reversed int str bool list tuple dict set frozenset isinstance ord
    repr any all divmod Exception ValueError TypeError KeyError IndexError LookupError ZeroDivisionError ArithmeticError
    OverflowError RuntimeError NotImplementedError StopIteration
""".split()

METHODS = """
    append clear copy count endswith extend find get index insert isalnum isalpha isdigit islower isspace isupper items
    join keys ljust lower lstrip partition pop remove replace reverse rfind rjust rpartition rsplit rstrip setdefault
    split splitlines startswith strip update upper values zfill bit_length
""".split()

WORDS_OUT = """
    type typing typing_extensions enum Enum IntEnum StrEnum Flag IntFlag Generic Protocol ABC ABCMeta namedtuple
    NamedTuple TypedDict TYPE_CHECKING abstractmethod
""".split()


def sources():
    return [(path.name, path.read_text(encoding="utf-8")) for path in sorted(PACKAGE.glob("*.py"))]


def nodes():
    return [(name, node) for name, text in sources() for node in ast.walk(ast.parse(text))]


def bound_names(node):
    if isinstance(node, (ast.FunctionDef, ast.ClassDef)):
        return [node.name]
    if isinstance(node, ast.arg):
        return [node.arg]
    if isinstance(node, ast.Name) and isinstance(node.ctx, ast.Store):
        return [node.id]
    return []


class Language(unittest.TestCase):
    def test_the_folder_holds_plain_files_alone(self):
        for path in PACKAGE.iterdir():
            if path.name != "__pycache__":
                self.assertRegex(path.name, r"^(__init__|[a-z][a-z0-9_]*)\.py$")

    def test_signs_and_sizes(self):
        for name, text in sources():
            lines = text.splitlines()
            self.assertRegex(text, r"\A[ -~\n]*\Z", name)
            self.assertLessEqual(len(lines), 400, name)
            self.assertLessEqual(max(len(line) for line in lines), 120, name)

    def test_functions_are_short_and_plain(self):
        for name, node in nodes():
            if isinstance(node, ast.FunctionDef):
                self.assertLessEqual(node.end_lineno - node.lineno + 1, 40, (name, node.name))
                self.assertEqual(node.decorator_list, [], (name, node.name))
                self.assertIsNone(node.args.vararg or node.args.kwarg or node.returns)
                self.assertEqual(node.args.kwonlyargs + node.args.posonlyargs, [], (name, node.name))

    def test_only_plain_forms(self):
        for name, node in nodes():
            place = (name, getattr(node, "lineno", 0))
            self.assertIn(type(node).__name__, NODES, place)
            if isinstance(node, ast.Assign):
                self.assertEqual([type(target) in (ast.Name, ast.Subscript, ast.Attribute) for target in node.targets],
                                 [True], place)
            if isinstance(node, ast.ListComp):
                self.assertEqual(len(node.generators), 1, place)
                self.assertLessEqual(len(node.generators[0].ifs), 1, place)
            if isinstance(node, (ast.For, ast.While)):
                self.assertEqual(node.orelse, [], place)
            if isinstance(node, ast.Constant):
                self.assertIn(type(node.value), (int, str, bool, type(None)), place)

    def test_imports_are_the_packages_own(self):
        for name, node in nodes():
            if isinstance(node, ast.ImportFrom):
                self.assertEqual(node.level, 0, name)
                self.assertRegex(node.module, r"^seektree\.[a-z]+$", name)
                self.assertTrue((PACKAGE / (node.module.split(".")[1] + ".py")).is_file(), name)

    def test_names(self):
        for name, node in nodes():
            for bound in bound_names(node):
                self.assertRegex(bound, r"^[A-Za-z][A-Za-z0-9_]*$", name)
                self.assertFalse(hasattr(builtins, bound), (name, bound))
            if isinstance(node, ast.Name) and hasattr(builtins, node.id):
                self.assertIn(node.id, BUILTINS, name)
            if isinstance(node, ast.Attribute):
                self.assertIn(node.attr, METHODS, name)

    def test_words_that_stand_nowhere(self):
        for name, text in sources():
            for word in WORDS_OUT:
                self.assertIsNone(re.search(r"\b" + word + r"\b", text), (name, word))
            self.assertIsNone(re.search("dataclass|overload|contextmanager", text), name)


if __name__ == "__main__":
    unittest.main()
