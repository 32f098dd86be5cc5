"""The rules of LANGUAGE.md that can be read off the package's files, rule by rule."""

import ast
import builtins
import re
import unittest
from pathlib import Path

ROOT = Path(__file__).resolve().parent.parent / "parleyturn"

NODES = """
    Module FunctionDef ClassDef Return Assign AugAssign For While If Raise Try ExceptHandler ImportFrom Expr Pass
    Break Continue arguments arg alias Load Store BoolOp And Or BinOp Add Sub Mult FloorDiv Mod Pow BitAnd BitOr
    BitXor LShift RShift UnaryOp Not USub UAdd Invert Lambda IfExp Dict Set List Tuple ListComp comprehension Compare
    Eq NotEq Lt LtE Gt GtE Is IsNot In NotIn Call JoinedStr FormattedValue Constant Attribute Subscript Slice Name
    keyword
""".split()
OWN_NAMES = """
    len range enumerate zip min max sum abs sorted reversed int str bool list tuple dict set frozenset isinstance ord
    repr any all divmod Exception ValueError TypeError KeyError IndexError LookupError ZeroDivisionError
    ArithmeticError OverflowError RuntimeError NotImplementedError AttributeError StopIteration
""".split()
METHODS = """
    append clear copy count endswith extend find get index insert isalnum isalpha isdigit islower isspace isupper
    items join keys ljust lower lstrip partition pop remove replace reverse rfind rjust rpartition rsplit rstrip
    setdefault split splitlines startswith strip update upper values zfill bit_length
""".split()
NO_WORDS = """
    type typing typing_extensions enum Enum IntEnum StrEnum Flag IntFlag Generic Protocol ABC ABCMeta namedtuple
    NamedTuple TypedDict TYPE_CHECKING abstractmethod
""".split()
NO_NAMES = """
    register mro elements open input version_info with_traceback add_note attrgetter breakpoint builtins compile
    copyright credits delattr dir eval exec exit gc getattr globals hasattr help id importlib license locals
    methodcaller os quit setattr super type vars sys format format_map
""".split()
SPECIAL = ("__init__", "__eq__", "__repr__", "__str__", "__len__", "__all__", "__version__")

SOURCES = {path.stem: path.read_text(encoding="utf-8") for path in sorted(ROOT.glob("*.py"))}
TREES = {name: ast.parse(source) for name, source in SOURCES.items()}


def all_nodes(*sorts):
    for name, tree in TREES.items():
        for node in ast.walk(tree):
            if isinstance(node, sorts):
                yield name, node


def is_docstring(node):
    return isinstance(node, ast.Expr) and isinstance(node.value, ast.Constant) and isinstance(node.value.value, str)


def bound_names():
    for name, node in all_nodes(ast.FunctionDef, ast.ClassDef):
        yield name, node.name
    for name, node in all_nodes(ast.arg):
        yield name, node.arg
    for name, node in all_nodes(ast.Name):
        if isinstance(node.ctx, ast.Store):
            yield name, node.id


def value_names():
    """The values that objects are given, by name."""
    for name, node in all_nodes(ast.Attribute):
        if isinstance(node.ctx, ast.Store):
            yield name, node.attr


def called_name(node):
    """The name by which a function or a method is called; None of all else."""
    if not isinstance(node, ast.Call):
        return None
    return node.func.id if isinstance(node.func, ast.Name) else getattr(node.func, "attr", None)


class Language(unittest.TestCase):
    def test_files(self):
        self.assertIn("__init__", SOURCES)
        for path in ROOT.iterdir():
            if path.name != "__pycache__":
                self.assertRegex(path.name, r"^(__init__|[a-z][a-z0-9_]*)\.py$")

    def test_signs_and_sizes(self):
        for name, source in SOURCES.items():
            self.assertRegex(source, r"\A[ -~\n]*\Z", name)
            self.assertLessEqual(len(source.splitlines()), 400, name)
            self.assertLessEqual(max(map(len, source.splitlines())), 120, name)
        for name, node in all_nodes(ast.FunctionDef):
            self.assertLessEqual(node.end_lineno - node.lineno + 1, 40, (name, node.name))

    def test_words_that_stand_nowhere(self):
        for name, source in SOURCES.items():
            words = re.findall(r"[A-Za-z0-9_]+", source)
            self.assertEqual([word for word in words if word in NO_WORDS], [], name)
            self.assertNotRegex(source, r"dataclass|overload|contextmanager", name)

    def test_nodes(self):
        for name, node in all_nodes(ast.AST):
            self.assertIn(node.__class__.__name__, NODES, (name, getattr(node, "lineno", None)))

    def test_tops(self):
        tops = (ast.ImportFrom, ast.FunctionDef, ast.ClassDef, ast.Assign)
        for name, tree in TREES.items():
            self.assertTrue(is_docstring(tree.body[0]), name)
            for node in tree.body[1:]:
                self.assertIsInstance(node, tops, (name, node.lineno))
            names = [node.name for node in tree.body if isinstance(node, (ast.FunctionDef, ast.ClassDef))]
            self.assertEqual(len(names), len(set(names)), name)

    def test_calls_alone_stand_by_themselves(self):
        for name, tree in TREES.items():
            for node in ast.walk(tree):
                if isinstance(node, ast.Expr) and node is not tree.body[0]:
                    self.assertIsInstance(node.value, ast.Call, (name, node.lineno))

    def test_imports(self):
        draws = {name: set() for name in SOURCES}
        for name, node in all_nodes(ast.ImportFrom):
            package, _, source = node.module.partition(".")
            self.assertEqual((node.level, package), (0, "parleyturn"), (name, node.lineno))
            tops = [top.name for top in TREES[source].body if isinstance(top, (ast.FunctionDef, ast.ClassDef))]
            for top in TREES[source].body:
                if isinstance(top, ast.Assign):
                    tops.append(top.targets[0].id)
            for alias in node.names:
                self.assertIsNone(alias.asname, (name, node.lineno))
                self.assertIn(alias.name, tops, (name, node.lineno))
            draws[name].add(source)
        while draws:
            ready = [name for name in draws if not draws[name] & set(draws)]
            self.assertTrue(ready, "files draw from one another")
            for name in ready:
                draws.pop(name)

    def test_functions_and_classes(self):
        for name, node in all_nodes(ast.FunctionDef, ast.ClassDef):
            self.assertEqual(node.decorator_list, [], (name, node.name))
        for name, node in all_nodes(ast.arguments):
            self.assertEqual((node.vararg, node.kwarg, node.kwonlyargs, node.posonlyargs), (None, None, [], []), name)
        for name, node in all_nodes(ast.ClassDef):
            self.assertLessEqual(len(node.bases), 1, (name, node.name))
            for inner in node.body:
                self.assertIsInstance(inner, (ast.FunctionDef, ast.Pass), (name, node.name))

    def test_one_target(self):
        for name, node in all_nodes(ast.Assign):
            self.assertEqual(len(node.targets), 1, (name, node.lineno))
            self.assertNotIsInstance(node.targets[0], (ast.Tuple, ast.List), (name, node.lineno))

    def test_names(self):
        for name, bound in bound_names():
            if bound not in SPECIAL:
                self.assertRegex(bound, r"^[A-Za-z][A-Za-z0-9_]*$", name)
                self.assertFalse(hasattr(builtins, bound), (name, bound))
        for name, node in all_nodes(ast.Name):
            self.assertNotIn(node.id, NO_NAMES, (name, node.lineno))
            if hasattr(builtins, node.id):
                self.assertIn(node.id, OWN_NAMES, (name, node.lineno))

    def test_methods(self):
        own = {inner.name for _, node in all_nodes(ast.ClassDef) for inner in node.body if hasattr(inner, "name")}
        for name, node in all_nodes(ast.Attribute):
            self.assertNotIn(node.attr, NO_NAMES, (name, node.lineno))
        for name, node in all_nodes(ast.Call):
            if isinstance(node.func, ast.Attribute):
                self.assertIn(node.func.attr, set(METHODS) | own, (name, node.lineno))

    def test_methods_and_values_have_names_of_their_own(self):
        methods = [inner.name for _, node in all_nodes(ast.ClassDef) for inner in node.body if hasattr(inner, "name")]
        for name, value in value_names():
            self.assertNotIn(value, methods, name)
            for own in ("", 0, [], (), {}, set(), b""):
                self.assertFalse(hasattr(own, value), (name, value))
        for name, node in all_nodes(ast.ClassDef):
            inside = [inner.name for inner in node.body if hasattr(inner, "name")]
            self.assertEqual(len(inside), len(set(inside)), (name, node.name))

    def test_locals_are_not_called_like_classes_and_imports(self):
        for name, tree in TREES.items():
            taken = {top.name for top in tree.body if isinstance(top, ast.ClassDef)}
            for top in tree.body:
                if isinstance(top, ast.ImportFrom):
                    taken |= {alias.name for alias in top.names}
            for node in ast.walk(tree):
                if isinstance(node, ast.arg):
                    self.assertNotIn(node.arg, taken, (name, node.lineno))
                if isinstance(node, ast.Name) and isinstance(node.ctx, ast.Store):
                    self.assertNotIn(node.id, taken, (name, node.lineno))

    def test_what_is_walked_is_walked_at_once(self):
        walked = ("zip", "enumerate", "reversed", "range", "items", "keys", "values")
        takers = ("list", "tuple", "dict", "sorted", "sum", "any", "all", "enumerate", "zip", "min", "max", "join")
        for name, tree in TREES.items():
            at_once = []
            for node in ast.walk(tree):
                if isinstance(node, (ast.For, ast.comprehension)):
                    at_once.append(node.iter)
                if called_name(node) in takers:
                    at_once.extend(node.args)
            for node in ast.walk(tree):
                if called_name(node) in walked:
                    self.assertIn(node, at_once, (name, node.lineno))

    def test_what_a_loop_walks_is_not_changed_in_it(self):
        changes = ("append", "clear", "extend", "insert", "pop", "remove", "reverse", "setdefault", "update")
        for name, loop in all_nodes(ast.For):
            walked = {node.id for node in ast.walk(loop.iter) if isinstance(node, ast.Name)}
            for node in ast.walk(loop):
                if called_name(node) in changes and isinstance(node.func.value, ast.Name):
                    self.assertNotIn(node.func.value.id, walked, (name, node.lineno))

    def test_sets_are_not_kept(self):
        for name, node in all_nodes(ast.Assign, ast.Return, ast.For):
            value = node.iter if isinstance(node, ast.For) else node.value
            self.assertNotIsInstance(value, ast.Set, (name, node.lineno))
            self.assertNotIn(called_name(value), ("set", "frozenset"), (name, node.lineno))

    def test_is_stands_beside_none_and_truths(self):
        for name, node in all_nodes(ast.Compare):
            for sign, right in zip(node.ops, node.comparators):
                if isinstance(sign, (ast.Is, ast.IsNot)):
                    beside = isinstance(right, ast.Constant) and right.value in (None, True, False)
                    self.assertTrue(beside, (name, node.lineno))

    def test_loops_have_no_else(self):
        for name, node in all_nodes(ast.For, ast.While):
            self.assertEqual(node.orelse, [], (name, node.lineno))

    def test_comprehensions(self):
        for name, node in all_nodes(ast.ListComp):
            self.assertEqual(len(node.generators), 1, (name, node.lineno))
            self.assertLessEqual(len(node.generators[0].ifs), 1, (name, node.lineno))

    def test_numbers_and_texts(self):
        for name, node in all_nodes(ast.Constant):
            self.assertIn(node.value.__class__, (int, str, bool, None.__class__), (name, node.lineno))
            if isinstance(node.value, str):
                self.assertNotIn("%", node.value, (name, node.lineno))
        for name, node in all_nodes(ast.BinOp):
            if isinstance(node.op, ast.Pow):
                self.assertIsInstance(node.right, ast.Constant, (name, node.lineno))

    def test_no_annotations(self):
        for name, node in all_nodes(ast.FunctionDef):
            self.assertIsNone(node.returns, (name, node.name))
        for name, node in all_nodes(ast.arg):
            self.assertIsNone(node.annotation, (name, node.lineno))


if __name__ == "__main__":
    unittest.main()
