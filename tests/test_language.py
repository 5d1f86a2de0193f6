"""The form of the package's own files: what of ../shared/LANGUAGE.md (L1 to L28) can be seen in the tree of a file.

This is no stand-in for reading the rules: it finds the common slips early.
"""

import ast
import builtins
import pathlib
import re
import unittest

ROOT = pathlib.Path(__file__).resolve().parent.parent
PACKAGE = ROOT / "fieldrows"

STATEMENTS = (
    ast.FunctionDef, ast.ClassDef, ast.ImportFrom, ast.Assign, ast.AugAssign, ast.If, ast.While, ast.For, ast.Return,
    ast.Break, ast.Continue, ast.Pass, ast.Raise, ast.Try, ast.Expr,
)
NO_EXPRESSIONS = (
    ast.SetComp, ast.DictComp, ast.GeneratorExp, ast.NamedExpr, ast.Starred, ast.Yield, ast.YieldFrom, ast.Await,
)
OWN_NAMES = set(
    "len range enumerate zip min max sum abs sorted reversed int str bool list tuple dict set frozenset isinstance ord"
    " repr any all divmod Exception ValueError TypeError KeyError IndexError LookupError ZeroDivisionError"
    " ArithmeticError OverflowError RuntimeError NotImplementedError AttributeError StopIteration".split()
)
METHODS = set(
    "append clear copy count endswith extend find get index insert isalnum isalpha isdigit islower isspace isupper items"
    " join keys ljust lower lstrip partition pop remove replace reverse rfind rjust rpartition rsplit rstrip setdefault"
    " split splitlines startswith strip update upper values zfill bit_length".split()
)
PYTHONS_OWN_METHODS = {
    name for kind in (str, int, list, tuple, dict, set, bytes) for name in dir(kind) if not name.startswith("__")
}
NOWHERE = re.compile(
    r"\b(type|typing|typing_extensions|enum|Enum|IntEnum|StrEnum|Flag|IntFlag|Generic|Protocol|ABC|ABCMeta|namedtuple"
    r"|NamedTuple|TypedDict|TYPE_CHECKING|abstractmethod)\b|dataclass|overload|contextmanager"
)
NO_NAMES = set(
    "register mro elements open input version_info with_traceback add_note attrgetter breakpoint builtins compile"
    " copyright credits delattr dir eval exec exit gc getattr globals hasattr help id importlib license locals"
    " methodcaller os quit setattr super type vars sys chr print".split()
)
DUNDER_METHODS = {"__init__", "__eq__", "__repr__", "__str__", "__len__"}


def bound_names(tree):
    for node in ast.walk(tree):
        if isinstance(node, ast.Name) and isinstance(node.ctx, ast.Store):
            yield node.id, node.lineno
        elif isinstance(node, ast.arg):
            yield node.arg, node.lineno
        elif isinstance(node, (ast.FunctionDef, ast.ClassDef)):
            yield node.name, node.lineno


def methods_defined(tree):
    for node in ast.walk(tree):
        if isinstance(node, ast.ClassDef):
            for part in node.body:
                if isinstance(part, ast.FunctionDef):
                    yield part.name


class Language(unittest.TestCase):
    def setUp(self):
        self.texts = {path: path.read_text(encoding="utf-8") for path in sorted(PACKAGE.glob("*.py"))}
        self.trees = {path: ast.parse(text) for path, text in self.texts.items()}

    def nodes(self):
        for path, tree in self.trees.items():
            for node in ast.walk(tree):
                yield f"{path.name}:{getattr(node, 'lineno', 0)}", node

    def test_nothing_but_plain_files_lies_in_the_package(self):
        self.assertIn(PACKAGE / "__init__.py", self.texts)
        for path in PACKAGE.iterdir():
            if path.name == "__pycache__":
                continue
            self.assertRegex(path.name, r"^(__init__|[a-z][a-z0-9_]*)\.py$")
            self.assertNotIn(path.stem, dir(builtins))
            self.assertNotRegex(path.stem, r"^(test|tests|testing|test_.*|site|conftest|\w+customize)$")

    def test_signs_and_lengths(self):
        for path, text in self.texts.items():
            self.assertRegex(text, r"\A[ -~\n]*\Z", path.name)
            lines = text.split("\n")
            self.assertLessEqual(len(lines), 401, path.name)
            for number, line in enumerate(lines, 1):
                self.assertLessEqual(len(line), 120, f"{path.name}:{number}")
                self.assertIsNone(NOWHERE.search(line), f"{path.name}:{number}")

    def test_functions(self):
        for where, node in self.nodes():
            if isinstance(node, ast.FunctionDef):
                self.assertLessEqual(node.end_lineno - node.lineno + 1, 40, where)
                self.assertEqual(node.decorator_list, [], where)
            if isinstance(node, ast.arguments):
                self.assertEqual((node.vararg, node.kwarg, node.kwonlyargs, node.posonlyargs), (None, None, [], []), where)

    def test_the_top_of_a_file(self):
        allowed = (ast.ImportFrom, ast.FunctionDef, ast.ClassDef, ast.Assign)
        for path, tree in self.trees.items():
            self.assertIsNotNone(ast.get_docstring(tree), path.name)
            bound = []
            for node in tree.body[1:]:
                self.assertIsInstance(node, allowed, f"{path.name}:{node.lineno}")
                if isinstance(node, ast.Assign):
                    bound.append(node.targets[0].id)
                elif isinstance(node, ast.ImportFrom):
                    bound.extend(alias.name for alias in node.names)
                else:
                    bound.append(node.name)
            self.assertEqual(len(bound), len(set(bound)), path.name)

    def test_imports(self):
        for where, node in self.nodes():
            if isinstance(node, ast.ImportFrom):
                self.assertEqual(node.level, 0, where)
                self.assertTrue(node.module.startswith("fieldrows."), where)
                path = PACKAGE / (node.module.partition(".")[2] + ".py")
                for alias in node.names:
                    self.assertIsNone(alias.asname, where)
                    self.assertIn(alias.name, self.defined_in(path), where)

    def defined_in(self, path):
        nodes = self.trees[path].body
        defs = [node.name for node in nodes if isinstance(node, (ast.FunctionDef, ast.ClassDef))]
        return defs + [node.targets[0].id for node in nodes if isinstance(node, ast.Assign)]

    def test_imports_run_in_no_ring(self):
        drawn = {path: set() for path in self.trees}
        for path, tree in self.trees.items():
            for node in ast.walk(tree):
                if isinstance(node, ast.ImportFrom):
                    drawn[path].add(PACKAGE / (node.module.partition(".")[2] + ".py"))
        while drawn:
            free = [path for path in drawn if not drawn[path] & set(drawn)]
            self.assertNotEqual(free, [], [path.name for path in drawn])
            for path in free:
                drawn.pop(path)

    def test_statements(self):
        for where, node in self.nodes():
            if isinstance(node, ast.stmt):
                self.assertIsInstance(node, STATEMENTS, where)
            if isinstance(node, (ast.For, ast.While)):
                self.assertEqual(node.orelse, [], where)
            if isinstance(node, ast.Assign):
                self.assertEqual(len(node.targets), 1, where)
            if isinstance(node, ast.Try):
                self.assertEqual(node.finalbody, [], where)
            if isinstance(node, ast.ExceptHandler):
                self.assertIsNotNone(node.type, where)
            if isinstance(node, ast.Expr):
                self.assertIsInstance(node.value, (ast.Call, ast.Constant), where)

    def test_expressions(self):
        for where, node in self.nodes():
            self.assertNotIsInstance(node, NO_EXPRESSIONS, where)
            self.assertNotIsInstance(node, (ast.Div, ast.MatMult), where)
            if isinstance(node, ast.Constant):
                self.assertIsInstance(node.value, (int, str, type(None)), where)
                self.assertNotIn("%", str(node.value), where)
            if isinstance(node, ast.ListComp):
                self.assertEqual(len(node.generators), 1, where)
                self.assertLessEqual(len(node.generators[0].ifs), 1, where)
            if isinstance(node, ast.FormattedValue):
                self.assertIsInstance(node.value, ast.Name, where)
                self.assertIsNone(node.format_spec, where)
            if isinstance(node, ast.Compare):
                for sign, side in zip(node.ops, node.comparators):
                    if isinstance(sign, (ast.Is, ast.IsNot)):
                        self.assertIsInstance(side, ast.Constant, where)

    def test_names(self):
        for path, tree in self.trees.items():
            imported = {alias.name for node in ast.walk(tree) if isinstance(node, ast.ImportFrom) for alias in node.names}
            methods = set(methods_defined(tree))
            for name, line in bound_names(tree):
                where = f"{path.name}:{line}"
                if name in DUNDER_METHODS and name in methods:
                    continue
                self.assertRegex(name, r"^[A-Za-z][A-Za-z0-9_]*$", where)
                self.assertNotIn(name, imported, where)
                if name not in methods:
                    self.assertNotIn(name, dir(builtins), where)
            for node in ast.walk(tree):
                if isinstance(node, ast.Name):
                    self.assertNotIn(node.id, NO_NAMES, f"{path.name}:{node.lineno}")
                    if node.id in dir(builtins):
                        self.assertIn(node.id, OWN_NAMES, f"{path.name}:{node.lineno}")

    def test_methods(self):
        own = {name for tree in self.trees.values() for name in methods_defined(tree)}
        for where, node in self.nodes():
            if isinstance(node, ast.Attribute) and node.attr not in own:
                self.assertNotIn(node.attr, NO_NAMES | {"format", "format_map"}, where)
                if node.attr in PYTHONS_OWN_METHODS:
                    self.assertIn(node.attr, METHODS, where)

    def test_methods_and_values_of_objects(self):
        own = {name for tree in self.trees.values() for name in methods_defined(tree)}
        for where, node in self.nodes():
            if isinstance(node, ast.Attribute) and isinstance(node.ctx, ast.Store):
                self.assertNotIn(node.attr, own, where)
                self.assertNotIn(node.attr, PYTHONS_OWN_METHODS, where)

    def test_walked_at_once(self):
        walked = ("zip", "enumerate", "reversed", "range")
        around = ("list", "tuple", "dict", "sorted", "sum", "any", "all", "enumerate", "zip", "min", "max")
        for path, tree in self.trees.items():
            right = []
            for node in ast.walk(tree):
                if isinstance(node, (ast.For, ast.comprehension)):
                    right.append(node.iter)
                if isinstance(node, ast.Call) and isinstance(node.func, ast.Name) and node.func.id in around:
                    right.extend(node.args[:1])
            for node in ast.walk(tree):
                if isinstance(node, ast.Call) and isinstance(node.func, ast.Name) and node.func.id in walked:
                    self.assertIn(node, right, f"{path.name}:{node.lineno}")


if __name__ == "__main__":
    unittest.main()
