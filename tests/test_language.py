"""The package keeps to the part of Python that it may be written in, as far as a reading of its files shows."""

import ast
import builtins
import pathlib
import re
import unittest

PACKAGE = pathlib.Path(__file__).resolve().parent.parent / "radiofood"
FILES = sorted(path for path in PACKAGE.rglob("*") if path.is_file() and "__pycache__" not in path.parts)

NODES = """
    Module FunctionDef arguments arg ClassDef ImportFrom alias Assign AugAssign If While For Return Break Continue
    Pass Raise Try ExceptHandler Expr Lambda Name Load Store Constant List Tuple Dict BinOp UnaryOp BoolOp Compare
    IfExp Call keyword Attribute Subscript Slice ListComp comprehension Add Sub Mult FloorDiv Mod BitAnd BitOr BitXor
    LShift RShift Invert Not USub And Or Eq NotEq Lt LtE Gt GtE Is IsNot In NotIn
""".split()
BUILTINS = """
    len range enumerate zip min max sum abs sorted reversed int str bool list tuple dict set frozenset isinstance ord
    repr any all divmod Exception ValueError KeyError IndexError LookupError ZeroDivisionError RuntimeError
""".split()
METHODS = """
    append clear copy count endswith extend find get index insert isalnum isalpha isdigit islower isspace isupper items
    join keys ljust lower lstrip partition pop remove replace reverse rfind rjust rpartition rsplit rstrip setdefault
    split splitlines startswith strip update upper values zfill bit_length
""".split()
WORDS = """
    type typing typing_extensions enum Enum IntEnum StrEnum Flag IntFlag Generic Protocol ABC ABCMeta namedtuple
    NamedTuple TypedDict TYPE_CHECKING abstractmethod
""".split()
NEVER = "register mro elements open input version_info with_traceback add_note format format_map".split()
PYTHONS_OWN = {name for kind in (str, int, list, dict, set, bytes, tuple) for name in dir(kind)}


def tree_of(path):
    return ast.parse(path.read_text(encoding="utf-8"))


def plain(node):
    if isinstance(node, (ast.Tuple, ast.List)):
        return all(plain(part) for part in node.elts)
    if isinstance(node, ast.Dict):
        return all(plain(part) for part in node.keys + node.values)
    if isinstance(node, ast.UnaryOp):
        return isinstance(node.op, ast.USub) and plain(node.operand)
    return isinstance(node, ast.Constant) and isinstance(node.value, (int, str, bool, type(None)))


def top_names(tree):
    names = []
    for node in tree.body:
        if isinstance(node, (ast.FunctionDef, ast.ClassDef)):
            names.append(node.name)
        elif isinstance(node, ast.Assign):
            names.append(node.targets[0].id)
        elif isinstance(node, ast.ImportFrom):
            names.extend(alias.name for alias in node.names)
    return names


def defined(tree):
    return top_names(ast.Module([node for node in tree.body if not isinstance(node, ast.ImportFrom)], []))


class Language(unittest.TestCase):
    def each(self, *kinds):
        for path in FILES:
            for node in ast.walk(tree_of(path)):
                if isinstance(node, kinds or ast.AST):
                    yield path, node

    def test_files(self):
        for path in FILES:
            self.assertRegex(path.relative_to(PACKAGE).as_posix(), r"^([a-z][a-z0-9_]*|__init__)\.py$")
            text = path.read_bytes().decode("ascii")
            self.assertRegex(text, r"\A[ -~\n]+\Z")
            rows = text.split("\n")
            self.assertLessEqual(len(rows), 400)
            self.assertLessEqual(max(len(row) for row in rows), 120)
            found = set(re.findall(r"\w+", text)) & set(WORDS)
            self.assertEqual(found, set())
            self.assertIsNone(re.search("dataclass|overload|contextmanager", text))

    def test_the_top_of_a_file(self):
        for path in FILES:
            tree = tree_of(path)
            self.assertIsNotNone(ast.get_docstring(tree))
            for node in tree.body[1:]:
                self.assertIsInstance(node, (ast.ImportFrom, ast.FunctionDef, ast.ClassDef, ast.Assign))
                if isinstance(node, ast.Assign):
                    self.assertTrue(plain(node.value), (path.name, node.lineno))
            names = top_names(tree)
            self.assertEqual(len(set(names)), len(names))

    def test_imports(self):
        below = {}
        for path, node in self.each(ast.ImportFrom):
            self.assertEqual((node.level, node.col_offset), (0, 0))
            package, name = node.module.split(".")
            self.assertEqual(package, "radiofood")
            below.setdefault(path.stem, set()).add(name)
            for alias in node.names:
                self.assertIsNone(alias.asname)
                self.assertIn(alias.name, defined(tree_of(PACKAGE / f"{name}.py")))
        self.assertNotIn("__init__", below)
        order = []
        while below:
            ready = [name for name in below if not below[name] & set(below)]
            self.assertTrue(ready, "two files draw from one another")
            order.extend(below.pop(name) for name in ready)

    def test_statements_and_expressions(self):
        for path, node in self.each():
            self.assertIn(type(node).__name__, NODES, (path.name, getattr(node, "lineno", 0)))
            where = (path.name, getattr(node, "lineno", 0))
            if isinstance(node, ast.Assign):
                self.assertEqual(len(node.targets), 1, where)
            if isinstance(node, (ast.While, ast.For)):
                self.assertEqual(node.orelse, [], where)
            if isinstance(node, ast.Constant):
                self.assertIn(type(node.value), (int, str, bool, type(None)), where)
            if isinstance(node, ast.ListComp):
                self.assertEqual(len(node.generators), 1, where)
                self.assertLessEqual(len(node.generators[0].ifs), 1, where)
            if isinstance(node, ast.Compare) and isinstance(node.ops[0], (ast.Is, ast.IsNot)):
                self.assertIsInstance(node.comparators[0], ast.Constant, where)
            if isinstance(node, ast.Expr):
                text = isinstance(node.value, ast.Constant) and node.lineno == 1
                self.assertTrue(text or isinstance(node.value, ast.Call), where)

    def test_functions(self):
        for path, node in self.each(ast.FunctionDef):
            self.assertLessEqual(node.end_lineno - node.lineno + 1, 40, node.name)
            self.assertEqual(node.decorator_list, [])
            self.assertIsNone(node.returns)
            parts = node.args
            self.assertEqual((parts.vararg, parts.kwarg, parts.kwonlyargs, parts.posonlyargs), (None, None, [], []))
            self.assertTrue(all(arg.annotation is None for arg in parts.args))

    def test_names(self):
        for path in FILES:
            tree = tree_of(path)
            tops = set(top_names(tree))
            inner = set()
            for node in ast.walk(tree):
                if isinstance(node, ast.arg):
                    inner.add(node.arg)
                elif isinstance(node, ast.Name) and isinstance(node.ctx, ast.Store) and node.col_offset:
                    inner.add(node.id)
            self.assertEqual(inner & (tops | set(dir(builtins))), set())
            for name in inner | tops:
                self.assertRegex(name, r"^[A-Za-z]\w*$")
                self.assertNotIn(name, NEVER)
            read = {node.id for node in ast.walk(tree) if isinstance(node, ast.Name)}
            self.assertEqual(read - inner - tops - set(BUILTINS), set())

    def test_methods_and_values(self):
        methods = {part.name for path, node in self.each(ast.ClassDef) for part in node.body}
        values = set()
        called = set()
        for path, node in self.each(ast.Attribute, ast.Call):
            if isinstance(node, ast.Attribute) and isinstance(node.ctx, ast.Store):
                values.add(node.attr)
            if isinstance(node, ast.Call) and isinstance(node.func, ast.Attribute):
                called.add(node.func.attr)
        self.assertEqual(methods & values, set())
        self.assertEqual((methods - {"__init__"}) & PYTHONS_OWN, set())
        self.assertEqual(values & PYTHONS_OWN, set())
        self.assertEqual((methods | values) & set(NEVER), set())
        self.assertEqual(called - methods - set(METHODS), set())

    def test_classes(self):
        for path, node in self.each(ast.ClassDef):
            self.assertEqual((node.bases, node.decorator_list, node.keywords), ([], [], []))
            self.assertTrue(all(isinstance(part, ast.FunctionDef) for part in node.body))


if __name__ == "__main__":
    unittest.main()
