"""The rules of the language that are quickly seen: files, signs, sizes, imports, forms and names."""

import ast
import builtins
import pathlib
import re
import unittest

PACKAGE = pathlib.Path(__file__).resolve().parent.parent / "cheaptree"
FORMS = (
    ast.With, ast.Match, ast.Global, ast.Nonlocal, ast.Yield, ast.YieldFrom, ast.AsyncFunctionDef, ast.Await,
    ast.AsyncFor, ast.AsyncWith, ast.GeneratorExp, ast.NamedExpr, ast.Div, ast.MatMult, ast.Import,
)
OWN = set(
    "len range enumerate zip min max sum abs sorted reversed int str bool bytes list tuple dict set frozenset "
    "isinstance ord repr any all divmod Exception ValueError TypeError KeyError IndexError LookupError "
    "ZeroDivisionError ArithmeticError OverflowError RuntimeError NotImplementedError AttributeError "
    "StopIteration".split()
)
WORDS = re.compile(
    r"\b(type|typing|typing_extensions|enum|Enum|IntEnum|StrEnum|Flag|IntFlag|Generic|Protocol|ABC|ABCMeta|namedtuple"
    r"|NamedTuple|TypedDict|TYPE_CHECKING|abstractmethod)\b|dataclass|overload|contextmanager"
)

METHODS = set(
    "append clear copy count endswith extend find get index insert isalnum isalpha isdigit islower isspace isupper items "
    "join keys ljust lower lstrip partition pop remove replace reverse rfind rjust rpartition rsplit rstrip setdefault "
    "split splitlines startswith strip update upper values zfill bit_length add discard".split()
)


def files():
    return [path for path in sorted(PACKAGE.iterdir()) if path.name != "__pycache__"]


def nodes():
    """Each node of each file, and where it stands."""
    for path in files():
        for node in ast.walk(ast.parse(path.read_text("ascii"))):
            yield node, f"{path.name}:{getattr(node, 'lineno', 0)}"


class LanguageTest(unittest.TestCase):
    def test_files(self):
        self.assertIn("__init__.py", [path.name for path in files()])
        for path in files():
            self.assertRegex(path.name, r"^([a-z][a-z0-9_]*|__init__)\.py$")

    def test_signs_and_sizes(self):
        for path in files():
            rows = path.read_text("utf-8").split("\n")
            self.assertLessEqual(len(rows), 400, path.name)
            for row in rows:
                self.assertRegex(row, r"^[ -~]{0,120}$", path.name)
                self.assertIsNone(WORDS.search(row), f"{path.name}: {row}")

    def test_functions(self):
        for node, where in nodes():
            if isinstance(node, (ast.FunctionDef, ast.ClassDef)):
                self.assertEqual(node.decorator_list, [], where)
            if isinstance(node, ast.FunctionDef):
                self.assertLessEqual(node.end_lineno - node.lineno + 1, 40, where)
                self.assertIsNone(node.args.vararg, where)
                self.assertIsNone(node.args.kwarg, where)

    def test_forms(self):
        for node, where in nodes():
            self.assertNotIsInstance(node, FORMS, where)
            if isinstance(node, ast.Constant):
                self.assertNotIsInstance(node.value, (float, complex), where)
            if isinstance(node, ast.ImportFrom):
                self.assertEqual(node.level, 0, where)
                self.assertRegex(node.module, r"^cheaptree\.[a-z]+$", where)

    def test_names(self):
        for node, where in nodes():
            if isinstance(node, ast.Name) and hasattr(builtins, node.id):
                self.assertIn(node.id, OWN, where)
                self.assertIsInstance(node.ctx, ast.Load, where)
            if isinstance(node, ast.arg):
                self.assertFalse(hasattr(builtins, node.arg), where)
                self.assertFalse(node.arg.startswith("_"), where)

    def test_what_is_drawn_in_is_used_and_nothing_else_is_called_so(self):
        for path in files():
            tree = ast.parse(path.read_text("ascii"))
            drawn = [each.name for node in tree.body if isinstance(node, ast.ImportFrom) for each in node.names]
            named = [node for node in ast.walk(tree) if isinstance(node, ast.Name)]
            for name in drawn:
                self.assertIn(name, [node.id for node in named], path.name)
            given = [node.id for node in named if not isinstance(node.ctx, ast.Load)]
            given += [node.arg for node in ast.walk(tree) if isinstance(node, ast.arg)]
            given += [node.name for node in ast.walk(tree) if isinstance(node, (ast.FunctionDef, ast.ClassDef))]
            self.assertEqual([name for name in given if name in drawn], [], path.name)

    def test_each_name_of_a_top_is_bound_once(self):
        for path in files():
            bound = []
            for node in ast.parse(path.read_text("ascii")).body:
                bound += [each.asname or each.name for each in getattr(node, "names", [])]
                bound += [node.name] if isinstance(node, (ast.FunctionDef, ast.ClassDef)) else []
                bound += [each.id for each in getattr(node, "targets", [])]
            self.assertEqual(len(bound), len(set(bound)), path.name)

    def test_is_stands_beside_none_true_and_false_alone(self):
        for node, where in nodes():
            if isinstance(node, ast.Compare) and any([isinstance(op, (ast.Is, ast.IsNot)) for op in node.ops]):
                self.assertEqual([type(part) for part in node.comparators], [ast.Constant], where)
                self.assertIn(node.comparators[0].value, (None, True, False), where)

    def test_loops_have_no_else_and_texts_no_percent(self):
        for node, where in nodes():
            if isinstance(node, (ast.For, ast.While)):
                self.assertEqual(node.orelse, [], where)
            if isinstance(node, ast.Constant) and isinstance(node.value, str):
                self.assertNotIn("%", node.value, where)

    def test_methods_and_values(self):
        own, given, called = set(), set(), []
        for node, where in nodes():
            if isinstance(node, ast.ClassDef):
                own |= {each.name for each in node.body if isinstance(each, ast.FunctionDef)}
            if isinstance(node, ast.Attribute) and isinstance(node.ctx, ast.Store):
                given.add(node.attr)
            if isinstance(node, ast.Call) and isinstance(node.func, ast.Attribute):
                called.append((node.func.attr, where))
        self.assertEqual(own & given, set())
        for name in own | given:
            kept = name == "__init__" or not any([hasattr(kind, name) for kind in (str, int, list, dict, set, bytes, tuple)])
            self.assertTrue(kept, name)
        for name, where in called:
            self.assertIn(name, METHODS | own, where)

    def test_no_two_files_draw_from_one_another(self):
        draws = {}
        for path in files():
            body = ast.parse(path.read_text("ascii")).body
            draws[path.stem] = [node.module.split(".")[1] for node in body if isinstance(node, ast.ImportFrom)]
        while draws:
            free = [name for name in draws if not any([each in draws for each in draws[name]])]
            self.assertNotEqual(free, [], sorted(draws))
            draws = {name: each for name, each in draws.items() if name not in free}
