"""The package keeps to its part of Python: the rules of LANGUAGE.md that can be read off the files."""

import ast
import builtins
import pathlib
import re
import unittest

FOLDER = pathlib.Path(__file__).resolve().parent.parent / "spanrow"
STATEMENTS = (
    ast.Assign, ast.AugAssign, ast.AnnAssign, ast.If, ast.While, ast.For, ast.Return, ast.Break, ast.Continue,
    ast.Pass, ast.Raise, ast.Try, ast.Expr, ast.FunctionDef, ast.ClassDef, ast.ImportFrom,
)
RULED_OUT = (
    ast.Div, ast.SetComp, ast.DictComp, ast.GeneratorExp, ast.NamedExpr, ast.Starred, ast.Yield, ast.YieldFrom,
    ast.Await, ast.MatMult,
)
OWN_NAMES = set(
    "len range enumerate zip min max sum abs sorted reversed int str bool list tuple dict set frozenset isinstance "
    "ord repr any all divmod Exception ValueError TypeError KeyError IndexError LookupError ZeroDivisionError "
    "ArithmeticError OverflowError RuntimeError NotImplementedError AttributeError StopIteration".split()
)
OWN_METHODS = set(
    "append clear copy count endswith extend find get index insert isalnum isalpha isdigit islower isspace isupper "
    "items join keys ljust lower lstrip partition pop remove replace reverse rfind rjust rpartition rsplit rstrip "
    "setdefault split splitlines startswith strip update upper values zfill bit_length".split()
)
WORDS = re.compile(
    r"\b(type|typing|typing_extensions|enum|Enum|IntEnum|StrEnum|Flag|IntFlag|Generic|Protocol|ABC|ABCMeta|namedtuple|"
    r"NamedTuple|TypedDict|TYPE_CHECKING|abstractmethod)\b|dataclass|overload|contextmanager"
)
UNUSED = set("register mro elements open input version_info with_traceback add_note format format_map".split())
METHODS_WITH_UNDERSCORES = ("__init__", "__eq__", "__repr__", "__str__", "__len__")
NOT_AS_NAMES = set(
    "attrgetter breakpoint builtins compile copyright credits delattr dir eval exec exit gc getattr globals hasattr "
    "help id importlib license locals methodcaller os quit setattr super type vars sys chr".split()
)
KEYWORDS = {
    "sorted": {"key", "reverse"}, "min": {"key", "default"}, "max": {"key", "default"}, "sum": {"start"},
    "enumerate": {"start"}, "zip": {"strict"},
}
WALKED = ("zip", "enumerate", "reversed", "range")
WALKED_METHODS = ("items", "keys", "values")
WALKERS = ("list", "tuple", "dict", "sorted", "sum", "any", "all", "enumerate", "zip", "min", "max")
OWN_VALUES = set(dir(str) + dir(int) + dir(list) + dir(dict) + dir(set) + dir(bytes) + dir(tuple))


def called(node):
    """The name that a call calls, plain or behind a dot."""
    if not isinstance(node, ast.Call):
        return None
    return node.func.id if isinstance(node.func, ast.Name) else getattr(node.func, "attr", None)


def with_parents(tree):
    return [(parent, child) for parent in ast.walk(tree) for child in ast.iter_child_nodes(parent)]


def bound_names(tree):
    names = []
    for node in ast.walk(tree):
        if isinstance(node, (ast.FunctionDef, ast.ClassDef)):
            names.append(node.name)
        elif isinstance(node, ast.arg):
            names.append(node.arg)
        elif isinstance(node, ast.Name) and isinstance(node.ctx, ast.Store):
            names.append(node.id)
        elif isinstance(node, ast.Attribute) and isinstance(node.ctx, ast.Store):
            names.append(node.attr)
        elif isinstance(node, ast.ExceptHandler) and node.name:
            names.append(node.name)
    return names


class Language(unittest.TestCase):

    def setUp(self):
        self.files = sorted(path for path in FOLDER.iterdir() if path.name != "__pycache__")
        self.texts = {path.name: path.read_text(encoding="utf-8") for path in self.files}
        self.trees = {name: ast.parse(text) for name, text in self.texts.items()}

    def nodes(self):
        return [(name, node) for name, tree in self.trees.items() for node in ast.walk(tree)]

    def test_files_and_signs(self):
        self.assertIn("__init__.py", self.texts)
        for name, text in self.texts.items():
            self.assertRegex(name, r"^(__init__|[a-z][a-z0-9_]*)\.py$")
            self.assertRegex(text, r"\A[ -~\n]*\Z", name)
            self.assertLessEqual(len(text.splitlines()), 400, name)
            self.assertLessEqual(max(len(line) for line in text.splitlines()), 120, name)
            self.assertIsNone(WORDS.search(text), name)

    def test_imports(self):
        for name, node in self.nodes():
            self.assertNotIsInstance(node, ast.Import, name)
            if isinstance(node, ast.ImportFrom):
                source = node.module.partition("spanrow.")[2] + ".py"
                self.assertIn(source, self.texts, name)
                self.assertEqual(node.level, 0, name)
                for drawn in node.names:
                    self.assertIsNone(drawn.asname, name)
                    self.assertIn(drawn.name, [getattr(top, "name", None) for top in self.trees[source].body], name)
        self.assertEqual(len(self.trees["__init__.py"].body), 1)

    def test_statements_and_expressions(self):
        for name, node in self.nodes():
            place = (name, getattr(node, "lineno", 0))
            self.assertNotIsInstance(node, RULED_OUT, place)
            if isinstance(node, ast.stmt):
                self.assertIsInstance(node, STATEMENTS, place)
            if isinstance(node, (ast.For, ast.While)):
                self.assertEqual(node.orelse, [], place)
            if isinstance(node, ast.Assign):
                self.assertEqual(len(node.targets), 1, place)
            if isinstance(node, ast.ListComp):
                self.assertEqual(len(node.generators), 1, place)
                self.assertLessEqual(len(node.generators[0].ifs), 1, place)
            if isinstance(node, ast.Constant):
                self.assertNotIsInstance(node.value, (float, complex, bytes), place)
            if isinstance(node, ast.FormattedValue):
                self.assertIsInstance(node.value, ast.Name, place)

    def test_functions_and_classes(self):
        for name, node in self.nodes():
            if isinstance(node, ast.FunctionDef):
                self.assertLessEqual(node.end_lineno - node.lineno + 1, 40, (name, node.name))
                self.assertIsNone(node.args.vararg or node.args.kwarg, (name, node.name))
                self.assertEqual(node.args.kwonlyargs + node.decorator_list, [], (name, node.name))
            if isinstance(node, ast.ClassDef):
                self.assertLessEqual(len(node.bases), 1, (name, node.name))
                for part in node.body:
                    self.assertIsInstance(part, (ast.FunctionDef, ast.Pass), (name, node.name))

    def test_names(self):
        for name, tree in self.trees.items():
            for bound in bound_names(tree):
                if bound not in METHODS_WITH_UNDERSCORES:
                    self.assertRegex(bound, r"^[A-Za-z][A-Za-z0-9_]*$", name)
                self.assertNotIn(bound, UNUSED, name)
                self.assertNotIn(bound, dir(builtins), name)

    def test_names_of_pythons_own(self):
        methods = [part.name for name, node in self.nodes() if isinstance(node, ast.ClassDef)
                   for part in node.body if isinstance(part, ast.FunctionDef)]
        for name, node in self.nodes():
            if isinstance(node, ast.Name) and node.id in dir(builtins):
                self.assertIn(node.id, OWN_NAMES, (name, node.lineno))
            if isinstance(node, ast.Call) and isinstance(node.func, ast.Attribute):
                self.assertIn(node.func.attr, OWN_METHODS.union(methods), (name, node.lineno))

    def test_no_local_is_called_like_an_import_or_a_top_of_its_file(self):
        for name, tree in self.trees.items():
            tops = [getattr(top, "name", None) for top in tree.body]
            tops += [drawn.name for top in tree.body if isinstance(top, ast.ImportFrom) for drawn in top.names]
            for node in ast.walk(tree):
                if isinstance(node, ast.FunctionDef):
                    for bound in [own for part in node.body + [node.args] for own in bound_names(part)]:
                        self.assertNotIn(bound, tops, (name, node.name))

    def test_each_name_once_and_plain_at_the_top(self):
        for name, tree in self.trees.items():
            bound = [bound for top in tree.body if isinstance(top, (ast.Assign, ast.FunctionDef, ast.ClassDef))
                     for bound in ([top.name] if hasattr(top, "name") else [top.targets[0].id])]
            bound += [drawn.name for top in tree.body if isinstance(top, ast.ImportFrom) for drawn in top.names]
            self.assertEqual(len(bound), len(set(bound)), name)
            for top in tree.body:
                self.assertIsInstance(top, (ast.Expr, ast.ImportFrom, ast.Assign, ast.FunctionDef, ast.ClassDef), name)
                # Narrower than the rule: no list and no dict is kept at a file's top.
                if isinstance(top, ast.Assign):
                    self.assertIsInstance(ast.literal_eval(top.value), (int, str, tuple), name)

    def test_no_two_files_draw_from_one_another(self):
        drawn = {name: [node.module.partition("spanrow.")[2] + ".py" for node in ast.walk(tree)
                        if isinstance(node, ast.ImportFrom)] for name, tree in self.trees.items()}
        while drawn:
            free = [name for name, sources in drawn.items() if not set(sources) & set(drawn)]
            self.assertNotEqual(free, [], sorted(drawn))
            for name in free:
                drawn.pop(name)

    def test_no_import_is_idle(self):
        for name, tree in self.trees.items():
            used = [node.id for node in ast.walk(tree) if isinstance(node, ast.Name)]
            for node in ast.walk(tree):
                if isinstance(node, ast.ImportFrom):
                    for drawn in node.names:
                        self.assertIn(drawn.name, used, name)

    def test_methods_and_values(self):
        methods = [part.name for name, node in self.nodes() if isinstance(node, ast.ClassDef)
                   for part in node.body if isinstance(part, ast.FunctionDef)]
        for name, node in self.nodes():
            if isinstance(node, ast.Attribute) and isinstance(node.ctx, ast.Store):
                self.assertNotIn(node.attr, methods, (name, node.lineno))
                self.assertNotIn(node.attr, OWN_VALUES, (name, node.lineno))
                self.assertIsInstance(node.value, ast.Name, (name, node.lineno))
        self.assertEqual(set(methods) & OWN_VALUES - {"__init__"}, set())

    def test_narrower_forms(self):
        for name, node in self.nodes():
            place = (name, getattr(node, "lineno", 0))
            # Narrower than the rules: nothing is taken, and nothing is annotated.
            self.assertNotIsInstance(node, (ast.Try, ast.AnnAssign, ast.Set, ast.Pow), place)
            if isinstance(node, ast.FunctionDef):
                self.assertIsNone(node.returns, place)
            if isinstance(node, ast.arg):
                self.assertIsNone(node.annotation, place)
            if isinstance(node, ast.Compare):
                for sign, right in zip(node.ops, node.comparators):
                    if isinstance(sign, (ast.Is, ast.IsNot)):
                        self.assertIn(getattr(right, "value", 0), (None, True, False), place)
            if isinstance(node, ast.Constant) and isinstance(node.value, str):
                self.assertNotIn("%", node.value, place)
            if isinstance(node, ast.Name):
                self.assertNotIn(node.id, NOT_AS_NAMES, place)
            if isinstance(node, ast.Call) and node.keywords:
                self.assertLessEqual({word.arg for word in node.keywords}, KEYWORDS.get(called(node), set()), place)

    def test_walked_at_once(self):
        for name, tree in self.trees.items():
            for parent, node in with_parents(tree):
                if called(node) in WALKED + WALKED_METHODS:
                    if isinstance(parent, ast.Call):
                        self.assertTrue(called(parent) in WALKERS and parent.args[0] is node, (name, node.lineno))
                    else:
                        self.assertIsInstance(parent, (ast.For, ast.comprehension), (name, node.lineno))
                        self.assertIs(parent.iter, node, (name, node.lineno))

    def test_sets_are_not_kept(self):
        for name, tree in self.trees.items():
            for parent, node in with_parents(tree):
                if called(node) in ("set", "frozenset"):
                    self.assertTrue(called(parent) in ("sorted", "len") or isinstance(parent, ast.Compare),
                                    (name, node.lineno))

    def test_own_values_are_called_and_not_kept(self):
        for name, tree in self.trees.items():
            for parent, node in with_parents(tree):
                if isinstance(node, ast.Name) and node.id in dir(builtins) and node.id != "ValueError":
                    self.assertTrue(isinstance(parent, ast.Call) and parent.func is node, (name, node.lineno))


if __name__ == "__main__":
    unittest.main()
