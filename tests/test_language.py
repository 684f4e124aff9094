"""The package keeps to its part of Python: the rules of LANGUAGE.md that can be read off the files."""

import ast
import builtins
import pathlib
import re
import unittest

FOLDER = pathlib.Path(__file__).resolve().parent.parent / "spanrow"
STATEMENTS = (
    ast.Assign, ast.AugAssign, ast.AnnAssign, ast.If, ast.While, ast.For, ast.Return, ast.Break, ast.Continue,
    ast.Pass, ast.Raise, ast.Try, ast.Expr, ast.FunctionDef, ast.ClassDef, ast.ImportFrom,
)
RULED_OUT = (
    ast.Div, ast.SetComp, ast.DictComp, ast.GeneratorExp, ast.NamedExpr, ast.Starred, ast.Yield, ast.YieldFrom,
    ast.Await, ast.MatMult,
)
OWN_NAMES = set(
    "len range enumerate zip min max sum abs sorted reversed int str bool list tuple dict set frozenset isinstance "
    "ord repr any all divmod Exception ValueError TypeError KeyError IndexError LookupError ZeroDivisionError "
    "ArithmeticError OverflowError RuntimeError NotImplementedError AttributeError StopIteration".split()
)
OWN_METHODS = set(
    "append clear copy count endswith extend find get index insert isalnum isalpha isdigit islower isspace isupper "
    "items join keys ljust lower lstrip partition pop remove replace reverse rfind rjust rpartition rsplit rstrip "
    "setdefault split splitlines startswith strip update upper values zfill bit_length".split()
)
WORDS = re.compile(
    r"\b(type|typing|typing_extensions|enum|Enum|IntEnum|StrEnum|Flag|IntFlag|Generic|Protocol|ABC|ABCMeta|namedtuple|"
    r"NamedTuple|TypedDict|TYPE_CHECKING|abstractmethod)\b|dataclass|overload|contextmanager"
)
UNUSED = set("register mro elements open input version_info with_traceback add_note format format_map".split())
METHODS_WITH_UNDERSCORES = ("__init__", "__eq__", "__repr__", "__str__", "__len__")


def bound_names(tree):
    names = []
    for node in ast.walk(tree):
        if isinstance(node, (ast.FunctionDef, ast.ClassDef)):
            names.append(node.name)
        elif isinstance(node, ast.arg):
            names.append(node.arg)
        elif isinstance(node, ast.Name) and isinstance(node.ctx, ast.Store):
            names.append(node.id)
        elif isinstance(node, ast.Attribute) and isinstance(node.ctx, ast.Store):
            names.append(node.attr)
        elif isinstance(node, ast.ExceptHandler) and node.name:
            names.append(node.name)
    return names


class Language(unittest.TestCase):

    def setUp(self):
        self.files = sorted(path for path in FOLDER.iterdir() if path.name != "__pycache__")
        self.texts = {path.name: path.read_text(encoding="utf-8") for path in self.files}
        self.trees = {name: ast.parse(text) for name, text in self.texts.items()}

    def nodes(self):
        return [(name, node) for name, tree in self.trees.items() for node in ast.walk(tree)]

    def test_files_and_signs(self):
        self.assertIn("__init__.py", self.texts)
        for name, text in self.texts.items():
            self.assertRegex(name, r"^(__init__|[a-z][a-z0-9_]*)\.py$")
            self.assertRegex(text, r"\A[ -~\n]*\Z", name)
            self.assertLessEqual(len(text.splitlines()), 400, name)
            self.assertLessEqual(max(len(line) for line in text.splitlines()), 120, name)
            self.assertIsNone(WORDS.search(text), name)

    def test_imports(self):
        for name, node in self.nodes():
            self.assertNotIsInstance(node, ast.Import, name)
            if isinstance(node, ast.ImportFrom):
                source = node.module.partition("spanrow.")[2] + ".py"
                self.assertIn(source, self.texts, name)
                self.assertEqual(node.level, 0, name)
                for drawn in node.names:
                    self.assertIsNone(drawn.asname, name)
                    self.assertIn(drawn.name, [getattr(top, "name", None) for top in self.trees[source].body], name)
        self.assertEqual(len(self.trees["__init__.py"].body), 1)

    def test_statements_and_expressions(self):
        for name, node in self.nodes():
            place = (name, getattr(node, "lineno", 0))
            self.assertNotIsInstance(node, RULED_OUT, place)
            if isinstance(node, ast.stmt):
                self.assertIsInstance(node, STATEMENTS, place)
            if isinstance(node, (ast.For, ast.While)):
                self.assertEqual(node.orelse, [], place)
            if isinstance(node, ast.Assign):
                self.assertEqual(len(node.targets), 1, place)
            if isinstance(node, ast.ListComp):
                self.assertEqual(len(node.generators), 1, place)
                self.assertLessEqual(len(node.generators[0].ifs), 1, place)
            if isinstance(node, ast.Constant):
                self.assertNotIsInstance(node.value, (float, complex, bytes), place)
            if isinstance(node, ast.FormattedValue):
                self.assertIsInstance(node.value, ast.Name, place)

    def test_functions_and_classes(self):
        for name, node in self.nodes():
            if isinstance(node, ast.FunctionDef):
                self.assertLessEqual(node.end_lineno - node.lineno + 1, 40, (name, node.name))
                self.assertIsNone(node.args.vararg or node.args.kwarg, (name, node.name))
                self.assertEqual(node.args.kwonlyargs + node.decorator_list, [], (name, node.name))
            if isinstance(node, ast.ClassDef):
                self.assertLessEqual(len(node.bases), 1, (name, node.name))
                for part in node.body:
                    self.assertIsInstance(part, (ast.FunctionDef, ast.Pass), (name, node.name))

    def test_names(self):
        for name, tree in self.trees.items():
            for bound in bound_names(tree):
                if bound not in METHODS_WITH_UNDERSCORES:
                    self.assertRegex(bound, r"^[A-Za-z][A-Za-z0-9_]*$", name)
                self.assertNotIn(bound, UNUSED, name)
                self.assertNotIn(bound, dir(builtins), name)

    def test_names_of_pythons_own(self):
        methods = [part.name for name, node in self.nodes() if isinstance(node, ast.ClassDef)
                   for part in node.body if isinstance(part, ast.FunctionDef)]
        for name, node in self.nodes():
            if isinstance(node, ast.Name) and node.id in dir(builtins):
                self.assertIn(node.id, OWN_NAMES, (name, node.lineno))
            if isinstance(node, ast.Call) and isinstance(node.func, ast.Attribute):
                self.assertIn(node.func.attr, OWN_METHODS.union(methods), (name, node.lineno))


if __name__ == "__main__":
    unittest.main()
