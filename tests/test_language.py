"""The package keeps to the small part of the language that it is written in: what a reading of its files can see."""

import ast
import builtins
import pathlib
import re
import sys
import unittest

PACKAGE = pathlib.Path(__file__).resolve().parent.parent / "ringhouse"
OWN_NAMES = set(
    "len range enumerate zip min max sum abs sorted reversed int str bool bytes list tuple dict set frozenset "
    "isinstance ord repr any all divmod Exception ValueError TypeError KeyError IndexError LookupError "
    "ZeroDivisionError ArithmeticError OverflowError RuntimeError NotImplementedError AttributeError "
    "StopIteration".split()
)
METHODS = set(
    "append clear copy count endswith extend find get index insert isalnum isalpha isdigit islower isspace isupper "
    "items join keys ljust lower lstrip partition pop remove replace reverse rfind rjust rpartition rsplit rstrip "
    "setdefault split splitlines startswith strip update upper values zfill bit_length add discard sort".split()
)
DUNDERS = {"__init__", "__eq__", "__repr__", "__str__", "__len__"}
NODES = set(
    "Module FunctionDef ClassDef Return Delete Assign AugAssign For While If Raise Try Assert ImportFrom Expr Pass "
    "Break Continue BoolOp BinOp UnaryOp Lambda IfExp Dict Set ListComp SetComp DictComp Compare Call JoinedStr "
    "FormattedValue Constant Attribute Subscript Starred Name List Tuple Slice Load Store Del And Or Add Sub Mult "
    "Mod Pow LShift RShift BitOr BitXor BitAnd FloorDiv Invert Not UAdd USub Eq NotEq Lt LtE Gt GtE Is IsNot In "
    "NotIn comprehension ExceptHandler arguments arg keyword alias".split()
)
NOWHERE = re.compile(
    r"\b(type|typing|typing_extensions|enum|Enum|IntEnum|StrEnum|Flag|IntFlag|Generic|Protocol|ABC|ABCMeta|"
    r"namedtuple|NamedTuple|TypedDict|TYPE_CHECKING|abstractmethod)\b|dataclass|overload|contextmanager"
)
NOT_USED = set(
    "register mro elements open input version_info with_traceback add_note attrgetter breakpoint builtins compile "
    "copyright credits delattr dir eval exec exit gc getattr globals hasattr help id importlib license locals "
    "methodcaller os quit setattr super type vars sys format format_map".split()
)

KEYWORDS = {
    "sorted": ("key", "reverse"), "min": ("key", "default"), "max": ("key", "default"), "sum": ("start",),
    "enumerate": ("start",), "zip": ("strict",),
}
WALKED = ("zip", "enumerate", "reversed", "range")
WALKERS = ("list", "tuple", "dict", "sorted", "sum", "any", "all", "enumerate", "zip", "min", "max", "reversed")


def trees():
    for path in sorted(PACKAGE.glob("*.py")):
        yield path.name, ast.parse(path.read_text())


def bound_names(tree):
    """All names that are given something in a file, with their lines."""
    for node in ast.walk(tree):
        if isinstance(node, ast.Name) and isinstance(node.ctx, ast.Store):
            yield node.id, node.lineno
        elif isinstance(node, ast.arg):
            yield node.arg, node.lineno
        elif isinstance(node, (ast.FunctionDef, ast.ClassDef)):
            yield node.name, node.lineno
        elif isinstance(node, ast.ExceptHandler) and node.name:
            yield node.name, node.lineno


def top_names(tree):
    """The names of a file's top: its imports, and all else."""
    drawn, others = [], []
    for node in tree.body:
        if isinstance(node, ast.ImportFrom):
            drawn += [alias.name for alias in node.names]
        elif isinstance(node, (ast.FunctionDef, ast.ClassDef)):
            others.append(node.name)
        elif isinstance(node, ast.Assign):
            others += [target.id for target in node.targets]
    return drawn, others


class Language(unittest.TestCase):
    def test_files(self):
        for path in PACKAGE.iterdir():
            if path.name != "__pycache__":
                self.assertRegex(path.name, r"^([a-z][a-z0-9_]*|__init__)\.py$")
                text = path.read_text(encoding="ascii")
                self.assertRegex(text, r"\A[ -~\n]*\Z")
                self.assertLessEqual(len(text.splitlines()), 400)
                for line in text.splitlines():
                    self.assertLessEqual(len(line), 120, path.name)
                self.assertIsNone(NOWHERE.search(text), path.name)

    def test_forms(self):
        for name, tree in trees():
            for node in ast.walk(tree):
                self.assertIn(node.__class__.__name__, NODES, (name, getattr(node, "lineno", 0)))
                if isinstance(node, ast.Constant):
                    self.assertNotIsInstance(node.value, (float, complex))
                    if isinstance(node.value, str):
                        self.assertNotIn("%", node.value)
                if isinstance(node, ast.BinOp) and isinstance(node.op, ast.Pow):
                    self.assertIsInstance(node.right, ast.Constant)
                if isinstance(node, ast.FunctionDef):
                    self.assertLessEqual(node.end_lineno - node.lineno + 1, 40, (name, node.name))
                    self.assertEqual(node.decorator_list, [])
                    self.assertIsNone(node.args.vararg or node.args.kwarg)
                if isinstance(node, (ast.For, ast.While)):
                    self.assertEqual(node.orelse, [])

    def test_top_of_files(self):
        for name, tree in trees():
            self.assertIsNotNone(ast.get_docstring(tree), name)
            for node in tree.body[1:]:
                self.assertIsInstance(node, (ast.ImportFrom, ast.FunctionDef, ast.ClassDef, ast.Assign), name)
            drawn, others = top_names(tree)
            self.assertEqual(len(set(drawn + others)), len(drawn + others), name)

    def test_names(self):
        python_names = set(dir(builtins))
        for name, tree in trees():
            drawn, others = top_names(tree)
            classes = {node.name for node in tree.body if isinstance(node, ast.ClassDef)}
            for word, line in bound_names(tree):
                self.assertNotIn(word, NOT_USED, (name, line))
                self.assertNotIn(word, python_names, (name, line))
                self.assertNotIn(word, drawn, (name, line))
                self.assertTrue(word[0] != "_" or word in DUNDERS, (name, line))
            for node in ast.walk(tree):
                if isinstance(node, ast.arg) or isinstance(node, ast.Name) and isinstance(node.ctx, ast.Store):
                    self.assertNotIn(node.arg if isinstance(node, ast.arg) else node.id, classes)
                if isinstance(node, ast.Name) and isinstance(node.ctx, ast.Load) and node.id in python_names:
                    self.assertIn(node.id, OWN_NAMES, (name, node.lineno))

    def test_imports(self):
        defined, draws = {}, {}
        for name, tree in trees():
            module = "ringhouse." + name[:-3]
            defined[module] = top_names(tree)[1]
            draws[module] = [node for node in tree.body if isinstance(node, ast.ImportFrom)]
        for module, rows in draws.items():
            for row in rows:
                self.assertEqual(row.level, 0)
                self.assertIn(row.module, defined)
                for alias in row.names:
                    self.assertIsNone(alias.asname)
                    self.assertIn(alias.name, defined[row.module], module)
        left = {module: {row.module for row in rows} for module, rows in draws.items()}
        while left:
            free = [module for module, needs in left.items() if not needs & set(left)]
            self.assertTrue(free, "files draw from one another")
            for module in free:
                del left[module]

    def test_drawn_names_are_used(self):
        for name, tree in trees():
            used = {node.id for node in ast.walk(tree) if isinstance(node, ast.Name)}
            for word in top_names(tree)[0]:
                self.assertIn(word, used, name)

    def test_methods_and_values(self):
        methods, values = set(), set()
        for name, tree in trees():
            for node in ast.walk(tree):
                if isinstance(node, ast.ClassDef):
                    methods |= {part.name for part in node.body if isinstance(part, ast.FunctionDef)}
                if isinstance(node, ast.Attribute) and isinstance(node.ctx, ast.Store):
                    values.add(node.attr)
        self.assertEqual(methods & values, set())
        for name, tree in trees():
            called = {id(node.func) for node in ast.walk(tree) if isinstance(node, ast.Call)}
            for node in ast.walk(tree):
                if isinstance(node, ast.Attribute):
                    known = METHODS | methods if id(node) in called else values
                    self.assertIn(node.attr, known, (name, node.lineno))

    def test_is_stands_beside_none_true_and_false(self):
        for name, tree in trees():
            for node in ast.walk(tree):
                if isinstance(node, ast.Compare) and isinstance(node.ops[0], (ast.Is, ast.IsNot)):
                    self.assertIsInstance(node.comparators[0], ast.Constant, (name, node.lineno))
                    self.assertIn(node.comparators[0].value, (None, True, False), (name, node.lineno))

    def test_keywords_of_python_names(self):
        for name, tree in trees():
            for node in ast.walk(tree):
                if isinstance(node, ast.Call) and isinstance(node.func, ast.Name) and node.func.id in OWN_NAMES:
                    for keyword in node.keywords:
                        self.assertIn(keyword.arg, KEYWORDS.get(node.func.id, ()), (name, node.lineno))

    def test_what_is_walked_at_once(self):
        for name, tree in trees():
            free = set()
            for node in ast.walk(tree):
                if isinstance(node, (ast.For, ast.comprehension)):
                    free.add(id(node.iter))
                if isinstance(node, ast.Call) and isinstance(node.func, ast.Name) and node.func.id in WALKERS:
                    free |= {id(part) for part in node.args[:1]}
            for node in ast.walk(tree):
                if isinstance(node, ast.Call) and isinstance(node.func, ast.Name) and node.func.id in WALKED:
                    self.assertIn(id(node), free, (name, node.lineno))

    def test_sets_are_told_through_sorted_or_counted(self):
        for name, tree in trees():
            free = set()
            for node in ast.walk(tree):
                if isinstance(node, ast.Call) and isinstance(node.func, ast.Name) and node.func.id in ("sorted", "len"):
                    free |= {id(part) for part in node.args}
                if isinstance(node, ast.Compare) and isinstance(node.ops[0], (ast.In, ast.NotIn)):
                    free.add(id(node.comparators[0]))
            for node in ast.walk(tree):
                made = isinstance(node, ast.Call) and isinstance(node.func, ast.Name) and node.func.id == "set"
                if made or isinstance(node, (ast.Set, ast.SetComp)):
                    self.assertIn(id(node), free, (name, node.lineno))

    def test_errors_that_are_taken_are_the_programs_own(self):
        own = {node.name for name, tree in trees() for node in tree.body if isinstance(node, ast.ClassDef)}
        for name, tree in trees():
            for node in ast.walk(tree):
                if isinstance(node, ast.ExceptHandler):
                    self.assertIn(node.type.id, own, (name, node.lineno))
                if isinstance(node, ast.Raise):
                    self.assertIn(node.exc.func.id, own, (name, node.lineno))

    def test_python(self):
        self.assertGreaterEqual(sys.version_info, (3, 11))
