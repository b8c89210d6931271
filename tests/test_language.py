"""The package's own files keep to a small part of Python; what of that can be seen in a file is held here."""

import ast
import pathlib
import re
import unittest

PACKAGE = pathlib.Path(__file__).resolve().parent.parent / "fundgates"
FILES = sorted(path for path in PACKAGE.rglob("*") if "__pycache__" not in path.parts)
STATEMENTS = (
    ast.Assign, ast.AugAssign, ast.If, ast.While, ast.For, ast.Return, ast.Break, ast.Continue, ast.Pass, ast.Raise,
    ast.Try, ast.ExceptHandler, ast.Expr, ast.FunctionDef, ast.ClassDef, ast.ImportFrom)
EXPRESSIONS = (
    ast.Constant, ast.Name, ast.List, ast.Tuple, ast.Dict, ast.BinOp, ast.UnaryOp, ast.BoolOp, ast.Compare, ast.IfExp,
    ast.Call, ast.Attribute, ast.Subscript, ast.Slice, ast.ListComp, ast.Lambda)
BUILTINS = (
    "len range enumerate zip min max sum abs sorted reversed int str bool list tuple dict set frozenset isinstance "
    "ord repr any all divmod").split()
METHODS = (
    "append clear copy count endswith extend find get index insert isalnum isalpha isdigit islower isspace isupper "
    "items join keys ljust lower lstrip partition pop remove replace reverse rfind rjust rpartition rsplit rstrip "
    "setdefault split splitlines startswith strip update upper values zfill bit_length").split()
WORDS = (
    "type typing typing_extensions enum Enum IntEnum StrEnum Flag IntFlag Generic Protocol ABC ABCMeta namedtuple "
    "NamedTuple TypedDict TYPE_CHECKING abstractmethod").split()
PYTHONS_OWN = {name for kind in (str, int, list, dict, set, bytes, tuple) for name in dir(kind)}


def trees():
    return [(path, ast.parse(path.read_text())) for path in FILES]


def nodes(kind):
    return [(path, node) for path, tree in trees() for node in ast.walk(tree) if isinstance(node, kind)]


class Language(unittest.TestCase):
    def test_files(self):
        names = [path.name for path in FILES]
        self.assertIn("__init__.py", names)
        for path in FILES:
            self.assertRegex(path.name, r"^[a-z0-9_]+\.py$")

    def test_signs_and_sizes(self):
        for path in FILES:
            text = path.read_text()
            self.assertRegex(text, r"\A[ -~\n]*\Z", path)
            rows = text.split("\n")
            self.assertLessEqual(len(rows), 401, path)
            self.assertLessEqual(max(len(row) for row in rows), 120, path)
            for word in WORDS:
                self.assertIsNone(re.search(rf"\b{word}\b", text), (path, word))
            self.assertIsNone(re.search("dataclass|overload|contextmanager", text), path)
        for path, node in nodes(ast.FunctionDef):
            self.assertLessEqual(node.end_lineno - node.lineno + 1, 40, (path, node.name))

    def test_kinds_of_statement_and_expression(self):
        for path, node in nodes(ast.stmt):
            self.assertIsInstance(node, STATEMENTS, (path, node.lineno))
        for path, node in nodes(ast.expr):
            self.assertIsInstance(node, EXPRESSIONS, (path, node.lineno))
        for path, node in nodes(ast.operator):
            self.assertNotIsInstance(node, (ast.Div, ast.MatMult, ast.Pow), path)
        for path, node in nodes((ast.While, ast.For)):
            self.assertEqual(node.orelse, [], (path, node.lineno))
        for path, node in nodes(ast.Assign):
            self.assertEqual(len(node.targets), 1, (path, node.lineno))
        for path, node in nodes(ast.Constant):
            self.assertIn(node.value.__class__, (int, str, bool, None.__class__), (path, node.lineno))
        for path, node in nodes(ast.ListComp):
            self.assertEqual(len(node.generators), 1, (path, node.lineno))
            self.assertLessEqual(len(node.generators[0].ifs), 1, (path, node.lineno))

    def test_functions(self):
        for path, node in nodes((ast.FunctionDef, ast.Lambda)):
            arguments = node.args
            self.assertEqual((arguments.vararg, arguments.kwarg, arguments.kwonlyargs), (None, None, []), path)
        for path, node in nodes((ast.FunctionDef, ast.ClassDef)):
            self.assertEqual(node.decorator_list, [], (path, node.name))
        for path, node in nodes(ast.Compare):
            for operator, right in zip(node.ops, node.comparators):
                if isinstance(operator, (ast.Is, ast.IsNot)):
                    self.assertIn(ast.unparse(right), ("None", "True", "False"), (path, node.lineno))

    def test_names(self):
        for path, tree in trees():
            bound = {node.id for node in ast.walk(tree) if isinstance(node, ast.Name)
                     and not isinstance(node.ctx, ast.Load)}
            bound |= {node.arg for node in ast.walk(tree) if isinstance(node, ast.arg)}
            defined = {node.name for node in ast.walk(tree) if isinstance(node, (ast.FunctionDef, ast.ClassDef))}
            imported = {alias.name for node in ast.walk(tree) if isinstance(node, ast.ImportFrom)
                        for alias in node.names}
            for name in bound | (defined - {"__init__"}):
                self.assertRegex(name, r"^[A-Za-z][A-Za-z0-9_]*$", path)
                self.assertNotIn(name, dir(__import__("builtins")), path)
            classes = {node.name for node in ast.walk(tree) if isinstance(node, ast.ClassDef)}
            self.assertEqual(bound & (imported | classes), set(), path)
            for node in ast.walk(tree):
                if isinstance(node, ast.Name) and isinstance(node.ctx, ast.Load):
                    self.assertIn(node.id, bound | defined | imported | set(BUILTINS), (path, node.lineno))

    def test_the_top_binds_each_name_once_and_keeps_nothing(self):
        for path, tree in trees():
            names = []
            for node in tree.body:
                self.assertIsInstance(
                    node, (ast.Expr, ast.ImportFrom, ast.FunctionDef, ast.ClassDef, ast.Assign), path)
                if isinstance(node, ast.Expr):
                    self.assertIsInstance(node.value, ast.Constant, path)
                if isinstance(node, ast.Assign):
                    names.append(node.targets[0].id)
                    self.assertNotIsInstance(node.value, (ast.List, ast.Dict, ast.Call), path)
                    above = {other.name for other in tree.body[:tree.body.index(node)]
                             if isinstance(other, ast.FunctionDef)}
                    held = {part.id for part in ast.walk(node.value) if isinstance(part, ast.Name)}
                    self.assertEqual(held - above, set(), path)
                if isinstance(node, (ast.FunctionDef, ast.ClassDef)):
                    names.append(node.name)
                if isinstance(node, ast.ImportFrom):
                    names.extend(alias.name for alias in node.names)
            self.assertEqual(sorted(names), sorted(set(names)), path)

    def test_imports_are_the_packages_own_from_where_they_are_defined_and_go_one_way(self):
        drawn = {}
        tops = {f"fundgates.{path.stem}": tree for path, tree in trees()}
        for path, node in nodes(ast.ImportFrom):
            self.assertEqual(node.level, 0, path)
            self.assertIn(node.module, tops, path)
            body = tops[node.module].body
            own = {part.name for part in body if isinstance(part, (ast.FunctionDef, ast.ClassDef))}
            own |= {part.targets[0].id for part in body if isinstance(part, ast.Assign)}
            for alias in node.names:
                self.assertIn(alias.name, own, path)
                self.assertIsNone(alias.asname, path)
            drawn.setdefault(f"fundgates.{path.stem}", []).append(node.module)
        while drawn:
            done = [module for module in drawn if not any(other in drawn for other in drawn[module])]
            self.assertNotEqual(done, [], "files draw from one another")
            for module in done:
                drawn.pop(module)

    def test_methods_and_values_of_objects(self):
        methods = {node.name for path, cls in nodes(ast.ClassDef) for node in cls.body
                   if isinstance(node, ast.FunctionDef)}
        values = {node.attr for path, node in nodes(ast.Attribute) if isinstance(node.ctx, ast.Store)}
        self.assertEqual(methods & values, set())
        self.assertEqual((methods - {"__init__"}) & PYTHONS_OWN, set())
        self.assertEqual(values & PYTHONS_OWN, set())
        for path, node in nodes(ast.Attribute):
            self.assertIn(node.attr, methods | values | set(METHODS), (path, node.lineno))
