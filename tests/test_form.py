"""The rules of the language's part that can be seen in the syntax tree or in the text (L1 to L28)."""

import ast
import builtins
import re
import unittest
from pathlib import Path

PACKAGE = Path(__file__).resolve().parent.parent / "currenthouse"

STATEMENTS = (
    ast.Assign, ast.AugAssign, ast.If, ast.While, ast.For, ast.Return, ast.Break, ast.Continue, ast.Pass,
    ast.Raise, ast.Try, ast.Expr, ast.FunctionDef, ast.ClassDef, ast.ImportFrom,
)
FORBIDDEN_NODES = (
    ast.Div, ast.SetComp, ast.DictComp, ast.GeneratorExp, ast.NamedExpr, ast.Starred, ast.Set, ast.MatMult,
    ast.AnnAssign, ast.Yield, ast.YieldFrom, ast.Await,
)
OWN_NAMES = set(
    "len range enumerate zip min max sum abs sorted reversed int str bool list tuple dict set frozenset isinstance"
    " ord repr any all divmod Exception ValueError TypeError KeyError IndexError LookupError ZeroDivisionError"
    " ArithmeticError OverflowError RuntimeError NotImplementedError StopIteration".split()
)
METHODS = set(
    "append clear copy count endswith extend find get index insert isalnum isalpha isdigit islower isspace isupper"
    " items join keys ljust lower lstrip partition pop remove replace reverse rfind rjust rpartition rsplit rstrip"
    " setdefault split splitlines startswith strip update upper values zfill bit_length".split()
)
PYTHONS_METHODS = {name for kind in (int, str, list, dict, set, bytes, tuple) for name in dir(kind)}
SPECIAL_METHODS = {"__init__", "__eq__", "__repr__", "__str__", "__len__"}
FORBIDDEN_NAMES = {"register", "mro", "elements", "open", "input", "version_info", "with_traceback", "add_note"}
FORBIDDEN_WORDS = re.compile(
    r"\b(type|typing|typing_extensions|enum|Enum|IntEnum|StrEnum|Flag|IntFlag|Generic|Protocol|ABC|ABCMeta"
    r"|namedtuple|NamedTuple|TypedDict|TYPE_CHECKING|abstractmethod)\b|dataclass|overload|contextmanager"
)


def names_bound(tree):
    """Names of parameters, locals, defs and classes, with the row of each."""
    for node in ast.walk(tree):
        if isinstance(node, ast.arg):
            yield node.arg, node.lineno
        elif isinstance(node, ast.Name) and isinstance(node.ctx, ast.Store):
            yield node.id, node.lineno
        elif isinstance(node, (ast.FunctionDef, ast.ClassDef)):
            yield node.name, node.lineno


class Form(unittest.TestCase):
    def setUp(self):
        self.files = sorted(PACKAGE.glob("*.py"))
        self.texts = {path.name: path.read_text(encoding="utf-8") for path in self.files}
        self.trees = {name: ast.parse(text) for name, text in self.texts.items()}

    def walked(self):
        for name, tree in self.trees.items():
            for node in ast.walk(tree):
                yield f"{name}:{getattr(node, 'lineno', 0)}", node

    def test_nothing_else_lies_in_the_package(self):
        others = [path.name for path in PACKAGE.iterdir() if path not in self.files and path.name != "__pycache__"]
        self.assertEqual(others, [])
        for path in self.files:
            self.assertRegex(path.name, r"^([a-z][a-z0-9_]*|__init__|__main__)\.py$")

    def test_signs_and_sizes(self):
        for name, text in self.texts.items():
            self.assertRegex(text, r"\A[ -~\n]*\Z", name)
            self.assertIsNone(FORBIDDEN_WORDS.search(text), name)
            self.assertLessEqual(len(text.splitlines()), 400, name)
            self.assertLessEqual(max(len(row) for row in text.splitlines()), 120, name)

    def test_statements_and_expressions(self):
        for where, node in self.walked():
            self.assertNotIsInstance(node, FORBIDDEN_NODES, where)
            if isinstance(node, ast.stmt):
                self.assertIsInstance(node, STATEMENTS, where)
            if isinstance(node, (ast.For, ast.While)):
                self.assertEqual(node.orelse, [], where)
            if isinstance(node, ast.Assign):
                self.assertEqual(len(node.targets), 1, where)
            if isinstance(node, ast.Constant):
                self.assertNotIsInstance(node.value, (float, bytes, complex), where)
            if isinstance(node, ast.ListComp):
                self.assertEqual(len(node.generators), 1, where)
                self.assertLessEqual(len(node.generators[0].ifs), 1, where)

    def test_imports(self):
        for where, node in self.walked():
            if isinstance(node, ast.ImportFrom):
                self.assertEqual(node.level, 0, where)
                self.assertRegex(node.module, r"^currenthouse\.[a-z]", where)

    def test_functions_and_classes(self):
        for where, node in self.walked():
            if isinstance(node, (ast.FunctionDef, ast.ClassDef)):
                self.assertEqual(node.decorator_list, [], where)
                self.assertIsNone(ast.get_docstring(node), where)
            if isinstance(node, ast.FunctionDef):
                self.assertLessEqual(node.end_lineno - node.lineno + 1, 40, where)
                self.assertIsNone(node.args.vararg or node.args.kwarg or node.returns, where)
                self.assertEqual(node.args.kwonlyargs + node.args.posonlyargs, [], where)

    def test_names(self):
        for name, tree in self.trees.items():
            imports = [node for node in ast.walk(tree) if isinstance(node, ast.ImportFrom)]
            imported = {alias.name for node in imports for alias in node.names}
            top = [node.targets[0].id for node in tree.body if isinstance(node, ast.Assign)]
            top += [node.name for node in tree.body if isinstance(node, (ast.FunctionDef, ast.ClassDef))]
            self.assertEqual(len(top), len(set(top)), name)
            for bound, row in names_bound(tree):
                where = f"{name}:{row} {bound}"
                self.assertTrue(bound in SPECIAL_METHODS or re.match(r"[A-Za-z][A-Za-z0-9_]*$", bound), where)
                self.assertFalse(bound in vars(builtins), where)
                self.assertNotIn(bound, FORBIDDEN_NAMES, where)
                self.assertNotIn(bound, imported, where)

    def test_pythons_own_names_and_methods(self):
        for where, node in self.walked():
            if isinstance(node, ast.Name) and node.id in vars(builtins):
                self.assertIn(node.id, OWN_NAMES, where)
            if isinstance(node, ast.Attribute):
                self.assertNotIn(node.attr, FORBIDDEN_NAMES, where)
                if node.attr in PYTHONS_METHODS:
                    self.assertIn(node.attr, METHODS, where)


if __name__ == "__main__":
    unittest.main()
