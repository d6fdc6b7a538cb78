"""The rules of LANGUAGE.md that can be seen in one file's words and shape, asked of the package's files."""

import ast
import builtins
import pathlib
import re
import unittest

PACKAGE = pathlib.Path(__file__).resolve().parent.parent / "markhall"

STATEMENTS = (
    ast.Assign, ast.AugAssign, ast.If, ast.While, ast.For, ast.Return, ast.Break, ast.Continue, ast.Pass,
    ast.Raise, ast.Try, ast.Expr, ast.FunctionDef, ast.ClassDef, ast.ImportFrom,
)
EXPRESSIONS = (
    ast.Constant, ast.Name, ast.Attribute, ast.Subscript, ast.Slice, ast.Call, ast.List, ast.Tuple, ast.Dict,
    ast.BinOp, ast.UnaryOp, ast.BoolOp, ast.Compare, ast.IfExp, ast.Lambda, ast.ListComp,
    ast.JoinedStr, ast.FormattedValue,
)
OWN_NAMES = (
    "len range enumerate zip min max sum abs sorted reversed int str bool list tuple dict set frozenset "
    "isinstance ord repr any all divmod Exception ValueError TypeError KeyError IndexError LookupError "
    "ZeroDivisionError ArithmeticError OverflowError RuntimeError NotImplementedError AttributeError StopIteration"
).split()
METHODS = (
    "append clear copy count endswith extend find get index insert isalnum isalpha isdigit islower isspace "
    "isupper items join keys ljust lower lstrip partition pop remove replace reverse rfind rjust rpartition "
    "rsplit rstrip setdefault split splitlines startswith strip update upper values zfill bit_length"
).split()
UNSAID = re.compile(
    r"\b(type|typing|typing_extensions|enum|Enum|IntEnum|StrEnum|Flag|IntFlag|Generic|Protocol|ABC|ABCMeta|"
    r"namedtuple|NamedTuple|TypedDict|TYPE_CHECKING|abstractmethod)\b|dataclass|overload|contextmanager"
)
PLAIN_NAME = re.compile(r"[A-Za-z][A-Za-z0-9_]*\Z")
WALKED = ("range", "zip", "enumerate", "reversed")
WALKERS = ("list", "tuple", "dict", "sorted", "sum", "any", "all", "enumerate", "zip", "min", "max")
TWO_UNDERSCORES = ("__init__", "__eq__", "__repr__", "__str__", "__len__", "__all__", "__version__")


def sources():
    return sorted(path for path in PACKAGE.rglob("*") if "__pycache__" not in path.parts and path.is_file())


def tree_of(path):
    return ast.parse(path.read_text(encoding="utf-8"))


def above_each(tree):
    return {part: node for node in ast.walk(tree) for part in ast.iter_child_nodes(node)}


def names_bound(tree):
    for node in ast.walk(tree):
        if isinstance(node, (ast.FunctionDef, ast.ClassDef)):
            yield node.name
        elif isinstance(node, ast.arg):
            yield node.arg
        elif isinstance(node, ast.Name) and isinstance(node.ctx, ast.Store):
            yield node.id
        elif isinstance(node, ast.ExceptHandler) and node.name:
            yield node.name


def names_drawn(tree):
    for node in tree.body:
        if isinstance(node, ast.ImportFrom):
            yield from (alias.asname or alias.name for alias in node.names)


def files_drawn(tree):
    return [node.module.split(".")[1] for node in tree.body if isinstance(node, ast.ImportFrom)]


def names_defined(tree):
    for node in tree.body:
        if isinstance(node, (ast.FunctionDef, ast.ClassDef)):
            yield node.name
        elif isinstance(node, ast.Assign):
            yield from (target.id for target in node.targets)


def own_attributes():
    for path in sources():
        for node in ast.walk(tree_of(path)):
            if isinstance(node, ast.ClassDef):
                yield from (part.name for part in node.body if isinstance(part, ast.FunctionDef))
            if isinstance(node, ast.Attribute) and isinstance(node.ctx, ast.Store):
                yield node.attr


class TestLanguage(unittest.TestCase):
    def ask_each_node(self, check):
        for path in sources():
            for node in ast.walk(tree_of(path)):
                with self.subTest(file=path.name, line=getattr(node, "lineno", None)):
                    check(node)

    def test_files(self):
        self.assertTrue((PACKAGE / "__init__.py").is_file())
        for path in sources():
            with self.subTest(file=path.name):
                self.assertRegex(path.name, r"\A([a-z][a-z0-9_]*|__init__|__main__)\.py\Z")
                self.assertTrue(path.stem.startswith("__") or not hasattr(builtins, path.stem))

    def test_signs_words_and_sizes(self):
        for path in sources():
            with self.subTest(file=path.name):
                text = path.read_text(encoding="utf-8")
                self.assertRegex(text, r"\A[ -~\n]*\Z")
                self.assertIsNone(UNSAID.search(text))
                rows = text.split("\n")
                self.assertLessEqual(len(rows), 400)
                self.assertLessEqual(max(len(row) for row in rows), 120)

    def test_statements(self):
        def check(node):
            if isinstance(node, ast.stmt):
                self.assertIsInstance(node, STATEMENTS)
            if isinstance(node, ast.Assign):
                self.assertEqual(len(node.targets), 1)
            if isinstance(node, (ast.For, ast.While)):
                self.assertEqual(node.orelse, [])
            if isinstance(node, ast.Try):
                self.assertEqual(node.finalbody, [])

        self.ask_each_node(check)

    def test_expressions(self):
        def check(node):
            if isinstance(node, ast.expr):
                self.assertIsInstance(node, EXPRESSIONS)
            if isinstance(node, ast.Constant):
                self.assertNotIsInstance(node.value, (float, complex, bytes))
            if isinstance(node, ast.operator):
                self.assertNotIsInstance(node, (ast.Div, ast.MatMult))
            if isinstance(node, ast.Compare) and any(isinstance(sign, (ast.Is, ast.IsNot)) for sign in node.ops):
                sides = [node.left] + node.comparators
                self.assertTrue(any(isinstance(side, ast.Constant) and side.value in (None, True, False)
                                    for side in sides))

        self.ask_each_node(check)

    def test_comprehensions(self):
        def check(node):
            if isinstance(node, ast.ListComp):
                self.assertEqual(len(node.generators), 1)
                self.assertLessEqual(len(node.generators[0].ifs), 1)

        self.ask_each_node(check)

    def ask_each_call(self, called, check):
        for path in sources():
            tree = tree_of(path)
            above = above_each(tree)
            for node in above:
                if isinstance(node, ast.Call) and isinstance(node.func, ast.Name) and node.func.id in called:
                    with self.subTest(file=path.name, line=node.lineno):
                        check(node, above[node])

    def test_walked_at_once(self):
        def check(node, around):
            if isinstance(around, ast.Call) and isinstance(around.func, ast.Attribute):
                self.assertEqual(around.func.attr, "join")
            elif isinstance(around, ast.Call):
                self.assertIn(around.func.id, WALKERS)
            else:
                self.assertIsInstance(around, (ast.For, ast.comprehension))

        self.ask_each_call(WALKED, check)

    def test_sets_are_not_kept(self):
        def check(node, around):
            if isinstance(around, ast.Call):
                self.assertIn(around.func.id, ("sorted", "len"))
            else:
                self.assertIsInstance(around, (ast.Compare, ast.BinOp))

        self.ask_each_call(("set", "frozenset"), check)

    def test_functions_and_classes(self):
        def check(node):
            if isinstance(node, (ast.FunctionDef, ast.ClassDef)):
                self.assertEqual(node.decorator_list, [])
            if isinstance(node, ast.FunctionDef):
                self.assertLessEqual(node.end_lineno - node.lineno + 1, 40)
            if isinstance(node, ast.arguments):
                self.assertEqual((node.vararg, node.kwarg, node.kwonlyargs), (None, None, []))
            if isinstance(node, ast.ClassDef):
                self.assertLessEqual(len(node.bases), 1)
                for part in node.body:
                    self.assertIsInstance(part, (ast.FunctionDef, ast.Pass))

        self.ask_each_node(check)

    def test_imports(self):
        def check(node):
            if isinstance(node, ast.ImportFrom):
                self.assertEqual(node.level, 0)
                self.assertRegex(node.module, r"\Amarkhall\.[a-z][a-z0-9_]*\Z")
                drawn = PACKAGE / (node.module.split(".")[1] + ".py")
                for alias in node.names:
                    self.assertIn(alias.name, list(names_defined(tree_of(drawn))))

        self.ask_each_node(check)

    def test_names(self):
        for path in sources():
            with self.subTest(file=path.name):
                tree = tree_of(path)
                tops = list(names_defined(tree)) + list(names_drawn(tree))
                self.assertEqual(len(tops), len(set(tops)))
                bound = [name for name in names_bound(tree) if name not in TWO_UNDERSCORES]
                for name in bound:
                    self.assertRegex(name, PLAIN_NAME)
                    self.assertFalse(hasattr(builtins, name), name)
                for node in ast.walk(tree):
                    if isinstance(node, ast.Name) and isinstance(node.ctx, ast.Load):
                        self.assertIn(node.id, bound + tops + OWN_NAMES)

    def test_no_two_files_draw_from_one_another(self):
        drawn = {path.stem: files_drawn(tree_of(path)) for path in sources()}
        self.assertEqual(drawn["__init__"], [])
        while drawn:
            free = [stem for stem in drawn if not any(other in drawn for other in drawn[stem])]
            self.assertTrue(free, drawn)
            drawn = {stem: others for stem, others in drawn.items() if stem not in free}

    def test_classes_and_their_values(self):
        methods = []
        values = []
        for path in sources():
            for node in ast.walk(tree_of(path)):
                if isinstance(node, ast.ClassDef):
                    own = [part.name for part in node.body if isinstance(part, ast.FunctionDef)]
                    self.assertEqual(len(own), len(set(own)))
                    methods.extend(own)
                if isinstance(node, ast.Attribute) and isinstance(node.ctx, ast.Store):
                    values.append(node.attr)
                if isinstance(node, ast.FunctionDef) and node.name == "__init__":
                    self.assertFalse(any(isinstance(part, ast.Return) for part in ast.walk(node)))
        self.assertEqual(set(methods) & set(values), set())
        for kind in (str, int, list, dict, set, bytes, tuple):
            self.assertEqual([name for name in methods + values if name != "__init__" and hasattr(kind, name)], [])

    def test_methods(self):
        free = list(own_attributes()) + METHODS

        def check(node):
            if isinstance(node, ast.Attribute):
                self.assertIn(node.attr, free)

        self.ask_each_node(check)


if __name__ == "__main__":
    unittest.main()
