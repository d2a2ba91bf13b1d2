"""The rules of the language that are quickly seen: files, signs, sizes, imports, forms and names."""

import ast
import builtins
import pathlib
import re
import unittest

PACKAGE = pathlib.Path(__file__).resolve().parent.parent / "cheaptree"
FORMS = (
    ast.With, ast.Match, ast.Global, ast.Nonlocal, ast.Yield, ast.YieldFrom, ast.AsyncFunctionDef, ast.Await,
    ast.AsyncFor, ast.AsyncWith, ast.GeneratorExp, ast.NamedExpr, ast.Div, ast.MatMult, ast.Import,
)
OWN = set(
    "len range enumerate zip min max sum abs sorted reversed int str bool bytes list tuple dict set frozenset "
    "isinstance ord repr any all divmod Exception ValueError TypeError KeyError IndexError LookupError "
    "ZeroDivisionError ArithmeticError OverflowError RuntimeError NotImplementedError AttributeError "
    "StopIteration".split()
)
WORDS = re.compile(
    r"\b(type|typing|typing_extensions|enum|Enum|IntEnum|StrEnum|Flag|IntFlag|Generic|Protocol|ABC|ABCMeta|namedtuple"
    r"|NamedTuple|TypedDict|TYPE_CHECKING|abstractmethod)\b|dataclass|overload|contextmanager"
)


def files():
    return [path for path in sorted(PACKAGE.iterdir()) if path.name != "__pycache__"]


def nodes():
    """Each node of each file, and where it stands."""
    for path in files():
        for node in ast.walk(ast.parse(path.read_text("ascii"))):
            yield node, f"{path.name}:{getattr(node, 'lineno', 0)}"


class LanguageTest(unittest.TestCase):
    def test_files(self):
        self.assertIn("__init__.py", [path.name for path in files()])
        for path in files():
            self.assertRegex(path.name, r"^([a-z][a-z0-9_]*|__init__)\.py$")

    def test_signs_and_sizes(self):
        for path in files():
            rows = path.read_text("utf-8").split("\n")
            self.assertLessEqual(len(rows), 400, path.name)
            for row in rows:
                self.assertRegex(row, r"^[ -~]{0,120}$", path.name)
                self.assertIsNone(WORDS.search(row), f"{path.name}: {row}")

    def test_functions(self):
        for node, where in nodes():
            if isinstance(node, (ast.FunctionDef, ast.ClassDef)):
                self.assertEqual(node.decorator_list, [], where)
            if isinstance(node, ast.FunctionDef):
                self.assertLessEqual(node.end_lineno - node.lineno + 1, 40, where)
                self.assertIsNone(node.args.vararg, where)
                self.assertIsNone(node.args.kwarg, where)

    def test_forms(self):
        for node, where in nodes():
            self.assertNotIsInstance(node, FORMS, where)
            if isinstance(node, ast.Constant):
                self.assertNotIsInstance(node.value, (float, complex), where)
            if isinstance(node, ast.ImportFrom):
                self.assertEqual(node.level, 0, where)
                self.assertRegex(node.module, r"^cheaptree\.[a-z]+$", where)

    def test_names(self):
        for node, where in nodes():
            if isinstance(node, ast.Name) and hasattr(builtins, node.id):
                self.assertIn(node.id, OWN, where)
                self.assertIsInstance(node.ctx, ast.Load, where)
            if isinstance(node, ast.arg):
                self.assertFalse(hasattr(builtins, node.arg), where)
                self.assertFalse(node.arg.startswith("_"), where)

    def test_what_is_drawn_in_is_used_and_nothing_else_is_called_so(self):
        for path in files():
            tree = ast.parse(path.read_text("ascii"))
            drawn = [each.name for node in tree.body if isinstance(node, ast.ImportFrom) for each in node.names]
            named = [node for node in ast.walk(tree) if isinstance(node, ast.Name)]
            for name in drawn:
                self.assertIn(name, [node.id for node in named], path.name)
            given = [node.id for node in named if not isinstance(node.ctx, ast.Load)]
            given += [node.arg for node in ast.walk(tree) if isinstance(node, ast.arg)]
            given += [node.name for node in ast.walk(tree) if isinstance(node, (ast.FunctionDef, ast.ClassDef))]
            self.assertEqual([name for name in given if name in drawn], [], path.name)

    def test_each_name_of_a_top_is_bound_once(self):
        for path in files():
            bound = []
            for node in ast.parse(path.read_text("ascii")).body:
                bound += [each.asname or each.name for each in getattr(node, "names", [])]
                bound += [node.name] if isinstance(node, (ast.FunctionDef, ast.ClassDef)) else []
                bound += [each.id for each in getattr(node, "targets", [])]
            self.assertEqual(len(bound), len(set(bound)), path.name)
