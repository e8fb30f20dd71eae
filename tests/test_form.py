"""The form of the package's code: its sizes, its signs, and the part of Python that it keeps to."""

import ast
import builtins
import pathlib
import re
import unittest

PACKAGE = pathlib.Path(__file__).resolve().parent.parent / "warmrows"

OUT_OF_BOUNDS = (
    ast.With, ast.Match, ast.Global, ast.Nonlocal, ast.Yield, ast.YieldFrom, ast.AsyncFunctionDef, ast.Await,
    ast.AsyncFor, ast.AsyncWith, ast.GeneratorExp, ast.NamedExpr, ast.Import, ast.Div, ast.MatMult, ast.Delete,
)

OWN_OF_PYTHON = set(
    "len range enumerate zip min max sum abs sorted reversed int str bool bytes list tuple dict set frozenset"
    " isinstance ord repr any all divmod Exception ValueError TypeError KeyError IndexError LookupError"
    " ZeroDivisionError ArithmeticError OverflowError RuntimeError NotImplementedError".split()
)

WORDS_OUT = (
    r"\b(type|typing|typing_extensions|enum|Enum|IntEnum|StrEnum|Flag|IntFlag|Generic|Protocol|ABC|ABCMeta"
    r"|namedtuple|NamedTuple|TypedDict|TYPE_CHECKING|abstractmethod)\b|dataclass|overload|contextmanager"
)

METHODS = set(
    "append clear copy count endswith extend find get index insert isalnum isalpha isdigit islower isspace isupper"
    " items join keys ljust lower lstrip partition pop remove replace reverse rfind rjust rpartition rsplit rstrip"
    " setdefault split splitlines startswith strip update upper values zfill bit_length".split()
)


class TestForm(unittest.TestCase):
    def setUp(self):
        self.files = sorted(PACKAGE.glob("*.py"))
        self.texts = {path.name: path.read_text(encoding="utf-8") for path in self.files}
        self.trees = {name: ast.parse(text) for name, text in self.texts.items()}

    def nodes(self):
        for name, tree in self.trees.items():
            for node in ast.walk(tree):
                yield name, node

    def test_nothing_else_lies_in_the_package(self):
        self.assertIn("__init__.py", self.texts)
        for path in PACKAGE.iterdir():
            self.assertTrue(path.name == "__pycache__" or re.fullmatch(r"[a-z_0-9]+\.py", path.name), path)

    def test_sizes(self):
        for name, text in self.texts.items():
            rows = text.split("\n")
            self.assertLessEqual(len(rows), 401, name)
            self.assertLessEqual(max(map(len, rows)), 120, name)
        for name, node in self.nodes():
            if isinstance(node, ast.FunctionDef):
                self.assertLessEqual(node.end_lineno - node.lineno + 1, 40, (name, node.name))

    def test_signs_and_words(self):
        for name, text in self.texts.items():
            self.assertIsNone(re.search(r"[^\n -~]", text), name)
            self.assertIsNone(re.search(WORDS_OUT, text), name)

    def test_statements_and_expressions(self):
        for name, node in self.nodes():
            where = (name, getattr(node, "lineno", None))
            self.assertNotIsInstance(node, OUT_OF_BOUNDS, where)
            if isinstance(node, (ast.FunctionDef, ast.ClassDef)):
                self.assertEqual(node.decorator_list, [], where)
            if isinstance(node, ast.arguments):
                self.assertFalse(node.vararg or node.kwarg or node.posonlyargs, where)
            if isinstance(node, ast.Constant):
                self.assertNotIsInstance(node.value, (float, complex), where)
            if isinstance(node, ast.Compare):
                for sign, right in zip(node.ops, node.comparators):
                    if isinstance(sign, (ast.Is, ast.IsNot)):
                        self.assertIsInstance(right, ast.Constant, where)
            if isinstance(node, (ast.For, ast.While)):
                self.assertEqual(node.orelse, [], where)

    def test_imports(self):
        for name, node in self.nodes():
            if isinstance(node, ast.ImportFrom):
                self.assertEqual(node.level, 0, name)
                self.assertRegex(node.module, r"^warmrows\.[a-z]+$", name)
                defined = self.tops(node.module.split(".")[1] + ".py")
                for drawn in node.names:
                    self.assertIn(drawn.name, defined, name)

    def tops(self, name):
        found = set()
        for node in self.trees[name].body:
            if isinstance(node, (ast.FunctionDef, ast.ClassDef)):
                found.add(node.name)
            if isinstance(node, ast.Assign):
                found.update(target.id for target in node.targets)
        return found

    def test_names(self):
        python_own = set(dir(builtins))
        for name, node in self.nodes():
            where = (name, getattr(node, "lineno", None))
            if isinstance(node, ast.Name):
                if isinstance(node.ctx, ast.Load) and node.id in python_own:
                    self.assertIn(node.id, OWN_OF_PYTHON, where)
                if isinstance(node.ctx, ast.Store):
                    self.assertNotIn(node.id, python_own, where)
                self.assertFalse(node.id.startswith("_"), where)
            if isinstance(node, ast.arg):
                self.assertNotIn(node.arg, python_own, where)
            if isinstance(node, ast.FunctionDef):
                self.assertTrue(node.name == "__init__" or not node.name.startswith("_"), where)

    def test_methods_and_values_of_objects(self):
        classes = [node for _, node in self.nodes() if isinstance(node, ast.ClassDef)]
        own = {each.name for node in classes for each in node.body if isinstance(each, ast.FunctionDef)}
        given = {node.attr for _, node in self.nodes()
                 if isinstance(node, ast.Attribute) and isinstance(node.ctx, ast.Store)}
        self.assertEqual(own & given, set())
        python_own = {name for thing in ("", 0, [], {}, set(), b"") for name in dir(thing)} - {"__init__"}
        self.assertEqual((own | given) & python_own, set())
        for name, node in self.nodes():
            if isinstance(node, ast.Attribute):
                self.assertIn(node.attr, METHODS | own | given, (name, node.lineno))

    def test_no_local_is_called_like_an_import(self):
        for name, tree in self.trees.items():
            drawn = {each.name for node in tree.body if isinstance(node, ast.ImportFrom) for each in node.names}
            tops = drawn | {node.name for node in tree.body if isinstance(node, ast.ClassDef)}
            for node in ast.walk(tree):
                if isinstance(node, ast.Name) and isinstance(node.ctx, ast.Store):
                    self.assertNotIn(node.id, tops, (name, node.lineno))
                if isinstance(node, ast.arg):
                    self.assertNotIn(node.arg, tops, (name, node.lineno))
                if isinstance(node, ast.FunctionDef):
                    self.assertNotIn(node.name, drawn, (name, node.lineno))

    def test_no_two_files_draw_from_one_another(self):
        draws = {}
        for name, tree in self.trees.items():
            modules = [node.module for node in tree.body if isinstance(node, ast.ImportFrom)]
            draws[name] = [module.split(".")[1] + ".py" for module in modules]
        done = []
        for _ in draws:
            done += [name for name in draws if name not in done and all(each in done for each in draws[name])]
        self.assertEqual(sorted(done), sorted(draws))
