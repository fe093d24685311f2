"""Those rules of the form of the code that can be seen in its tree and in its text."""

import ast
import builtins
import re
import unittest
from pathlib import Path

PACKAGE = Path(__file__).resolve().parent.parent / "shrinkhouse"

STATEMENTS = (
    ast.Assign, ast.AugAssign, ast.If, ast.While, ast.For, ast.Return, ast.Break, ast.Continue, ast.Pass, ast.Raise,
    ast.Try, ast.Expr, ast.FunctionDef, ast.ClassDef, ast.ImportFrom,
)

OUTSIDE = (
    ast.GeneratorExp, ast.SetComp, ast.DictComp, ast.NamedExpr, ast.Starred, ast.Yield, ast.Await, ast.Div, ast.MatMult,
)

OWN_NAMES = set(
    "len range enumerate zip min max sum abs sorted reversed int str bool list tuple dict set frozenset isinstance ord "
    "repr any all divmod Exception ValueError TypeError KeyError IndexError LookupError ZeroDivisionError "
    "ArithmeticError OverflowError RuntimeError NotImplementedError AttributeError StopIteration".split()
)

OWN_METHODS = set(
    "append clear copy count endswith extend find get index insert isalnum isalpha isdigit islower isspace isupper "
    "items join keys ljust lower lstrip partition pop remove replace reverse rfind rjust rpartition rsplit rstrip "
    "setdefault split splitlines startswith strip update upper values zfill bit_length __init__".split()
)

UNDERSCORED = {"__init__", "__eq__", "__repr__", "__str__", "__len__"}

FREE_VALUES = set("count index title find get join lower upper split strip copy add".split())

NOWHERE = re.compile(
    r"\b(type|typing|typing_extensions|enum|Enum|IntEnum|StrEnum|Flag|IntFlag|Generic|Protocol|ABC|ABCMeta|namedtuple"
    r"|NamedTuple|TypedDict|TYPE_CHECKING|abstractmethod)\b|dataclass|overload|contextmanager"
)

NOT_USED = {"register", "mro", "elements", "open", "input", "version_info", "with_traceback", "add_note", "format"}


def files():
    return sorted(PACKAGE.glob("*.py"))


def trees():
    return [(path, ast.parse(path.read_text(encoding="utf-8"))) for path in files()]


def bound_names(tree):
    """Every name that a file binds anywhere: defs, classes, parameters, targets, imports."""
    names = set()
    for node in ast.walk(tree):
        if isinstance(node, (ast.FunctionDef, ast.ClassDef)):
            names.add(node.name)
        elif isinstance(node, ast.arg):
            names.add(node.arg)
        elif isinstance(node, ast.Name) and isinstance(node.ctx, ast.Store):
            names.add(node.id)
        elif isinstance(node, ast.alias):
            names.add(node.name)
        elif isinstance(node, ast.ExceptHandler) and node.name:
            names.add(node.name)
    return names


def methods_and_values():
    methods = set()
    values = set()
    for path, tree in trees():
        for node in ast.walk(tree):
            if isinstance(node, ast.ClassDef):
                methods.update(part.name for part in node.body if isinstance(part, ast.FunctionDef))
            elif isinstance(node, ast.Attribute) and isinstance(node.ctx, ast.Store):
                values.add(node.attr)
    return methods, values


def imports_of(tree):
    return [node for node in tree.body if isinstance(node, ast.ImportFrom)]


def defined_at_top(tree):
    names = [node.name for node in tree.body if isinstance(node, (ast.FunctionDef, ast.ClassDef))]
    for node in tree.body:
        if isinstance(node, ast.Assign):
            names.append(node.targets[0].id)
    return names


def own_locals(function):
    """The parameters of a function and the names that it binds."""
    names = {part.arg for part in function.args.args}
    for node in ast.walk(function):
        if isinstance(node, ast.Name) and isinstance(node.ctx, ast.Store):
            names.add(node.id)
    return names


class LanguageTest(unittest.TestCase):
    def of_each(self, kinds, check):
        for path, tree in trees():
            for node in ast.walk(tree):
                if isinstance(node, kinds):
                    with self.subTest(file=path.name, line=getattr(node, "lineno", 0)):
                        check(node)

    def test_files(self):
        """L1, L14: plain files in one folder."""
        self.assertIn("__init__.py", [path.name for path in files()])
        for path in PACKAGE.iterdir():
            if path.name != "__pycache__":
                self.assertRegex(path.name, r"^[a-z0-9_]+\.py$")

    def test_signs_and_sizes(self):
        """L10, L14, L17, L27."""
        for path in files():
            text = path.read_text(encoding="utf-8")
            with self.subTest(file=path.name):
                self.assertRegex(text, r"\A[ -~\n]*\Z")
                self.assertIsNone(NOWHERE.search(text))
                self.assertLessEqual(len(text.splitlines()), 400)
                self.assertLessEqual(max(map(len, text.splitlines())), 120)

    def test_imports(self):
        """L2, L16: straight from the package's own files, and nothing in __init__.py."""
        self.of_each(ast.ImportFrom, self.check_import)
        body = ast.parse((PACKAGE / "__init__.py").read_text(encoding="utf-8")).body
        self.assertEqual([part.__class__ for part in body], [ast.Expr])

    def check_import(self, node):
        self.assertEqual(node.level, 0)
        self.assertTrue(node.module.startswith("shrinkhouse."))
        self.assertNotIn("*", [alias.name for alias in node.names])

    def test_imports_from_where_a_name_is_defined(self):
        """L16: from the very file that defines the name, and no two files draw from one another."""
        tops = {path.stem: tree for path, tree in trees()}
        drawn = {}
        for name, tree in tops.items():
            drawn[name] = [node.module.partition(".")[2] for node in imports_of(tree)]
            for node in imports_of(tree):
                for alias in node.names:
                    with self.subTest(file=name, name=alias.name):
                        self.assertIsNone(alias.asname)
                        self.assertIn(alias.name, defined_at_top(tops[node.module.partition(".")[2]]))
        while drawn:
            free = [name for name in drawn if not set(drawn[name]) & set(drawn)]
            self.assertTrue(free, drawn)
            for name in free:
                del drawn[name]

    def test_each_name_once(self):
        """L3, L15: at a file's top; and no local is called like a class or an import of its file."""
        for path, tree in trees():
            names = defined_at_top(tree) + [alias.name for node in imports_of(tree) for alias in node.names]
            with self.subTest(file=path.name):
                self.assertEqual(len(names), len(set(names)))
            for node in tree.body:
                self.assertIsInstance(node, (ast.Expr, ast.ImportFrom, ast.FunctionDef, ast.ClassDef, ast.Assign))
            for node in ast.walk(tree):
                if isinstance(node, ast.FunctionDef):
                    with self.subTest(file=path.name, line=node.lineno):
                        self.assertEqual(own_locals(node) & set(names), set())

    def test_errors(self):
        """L19: error classes of the program's own alone are raised and taken, and made on the spot."""
        own = [node.name for node in ast.parse((PACKAGE / "errors.py").read_text(encoding="utf-8")).body[1:]]
        for path, tree in trees():
            for node in ast.walk(tree):
                with self.subTest(file=path.name, line=getattr(node, "lineno", 0)):
                    if isinstance(node, ast.Raise):
                        self.assertIn(node.exc.func.id, own)
                    if isinstance(node, ast.ExceptHandler):
                        self.assertIn(node.type.id, own)
                    if isinstance(node, ast.Try):
                        self.assertEqual(node.finalbody, [])

    def test_sets_and_texts(self):
        """L7, L22, L24, L27: sets are not kept, keywords are few, and no text has a percent sign."""
        for path, tree in trees():
            inside = []
            for node in ast.walk(tree):
                with self.subTest(file=path.name, line=getattr(node, "lineno", 0)):
                    self.assertNotIsInstance(node, ast.Set)
                    if isinstance(node, ast.Constant) and isinstance(node.value, str):
                        self.assertNotIn("%", node.value)
                    if isinstance(node, ast.Call) and isinstance(node.func, ast.Name):
                        if node.func.id in ("sorted", "len") and not node.keywords:
                            inside += node.args
                        if node.func.id == "set":
                            self.assertIn(node, inside)
                    if isinstance(node, ast.keyword):
                        self.assertIn(node.arg, ("key", "reverse", "default", "start", "strict"))

    def test_statements(self):
        """L3, L6."""
        self.of_each(ast.stmt, self.check_statement)

    def check_statement(self, node):
        self.assertIsInstance(node, STATEMENTS)
        if isinstance(node, ast.Assign):
            self.assertEqual(len(node.targets), 1)
            self.assertNotIsInstance(node.targets[0], (ast.Tuple, ast.List))
        if isinstance(node, (ast.For, ast.While)):
            self.assertEqual(node.orelse, [])

    def test_classes(self):
        """L5, L18."""
        self.of_each(ast.ClassDef, self.check_class)

    def check_class(self, node):
        self.assertLessEqual(len(node.bases), 1)
        self.assertEqual(node.decorator_list, [])
        for part in node.body:
            self.assertIsInstance(part, (ast.FunctionDef, ast.Expr))
        names = [part.name for part in node.body if isinstance(part, ast.FunctionDef)]
        self.assertEqual(len(names), len(set(names)))

    def test_functions(self):
        """L4, L10, L21."""
        self.of_each(ast.FunctionDef, self.check_function)

    def check_function(self, node):
        self.assertLessEqual(node.end_lineno - node.lineno + 1, 40)
        self.assertEqual(node.decorator_list, [])
        self.assertIsNone(node.returns)
        arguments = node.args
        self.assertIsNone(arguments.vararg or arguments.kwarg)
        self.assertEqual(arguments.kwonlyargs + arguments.posonlyargs, [])
        self.assertEqual([part.annotation for part in arguments.args if part.annotation], [])

    def test_expressions(self):
        """L7, L20."""
        self.of_each(ast.AST, self.check_expression)

    def check_expression(self, node):
        self.assertNotIsInstance(node, OUTSIDE)
        if isinstance(node, ast.Constant):
            self.assertIsInstance(node.value, (int, str, type(None)))
        if isinstance(node, ast.ListComp):
            self.assertEqual(len(node.generators), 1)
            self.assertLessEqual(len(node.generators[0].ifs), 1)
        if isinstance(node, ast.Compare):
            for sign, side in zip(node.ops, node.comparators):
                if isinstance(sign, (ast.Is, ast.IsNot)):
                    self.assertIsInstance(side, ast.Constant)

    def test_names(self):
        """L8, L12, L15, L17."""
        for path, tree in trees():
            bound = bound_names(tree)
            for name in bound:
                with self.subTest(file=path.name, name=name):
                    self.assertTrue(name in UNDERSCORED or not name.startswith("_"))
                    self.assertNotIn(name, NOT_USED)
                    self.assertTrue(name in UNDERSCORED or name not in dir(builtins))
            for node in ast.walk(tree):
                if isinstance(node, ast.Name):
                    with self.subTest(file=path.name, name=node.id):
                        self.assertIn(node.id, bound | OWN_NAMES)

    def test_attributes(self):
        """L18, L25, L26."""
        methods, values = methods_and_values()
        self.assertEqual(methods & values, set())
        for path, tree in trees():
            for node in ast.walk(tree):
                if isinstance(node, ast.Attribute):
                    with self.subTest(file=path.name, line=node.lineno):
                        self.assertIn(node.attr, methods | values | OWN_METHODS)
        python_own = set()
        for kind in (str, int, list, dict, set, bytes, tuple):
            python_own.update(dir(kind))
        self.assertEqual((methods & python_own) - UNDERSCORED - OWN_METHODS - {"add", "discard"}, set())
        self.assertEqual((values & python_own) - FREE_VALUES, set())


if __name__ == "__main__":
    unittest.main()
