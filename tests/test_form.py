"""Holds the package's files to those rules of the language's part that can be read off a syntax tree."""

import ast
import builtins
import os
import re
import unittest

PACKAGE = os.path.join(os.path.dirname(os.path.dirname(os.path.abspath(__file__))), "twobanks")

STATEMENTS = (ast.Assign, ast.AugAssign, ast.If, ast.While, ast.For, ast.Return, ast.Break, ast.Continue, ast.Pass,
              ast.Raise, ast.Try, ast.Expr, ast.FunctionDef, ast.ClassDef, ast.ImportFrom)
EXPRESSIONS = (ast.BinOp, ast.UnaryOp, ast.BoolOp, ast.Compare, ast.IfExp, ast.Call, ast.Attribute, ast.Subscript,
               ast.Slice, ast.ListComp, ast.JoinedStr, ast.FormattedValue, ast.Constant, ast.Name, ast.List, ast.Tuple,
               ast.Dict, ast.Set, ast.Lambda)
BUILTINS = """len range enumerate zip min max sum abs sorted reversed int str bool list tuple dict set frozenset
isinstance ord repr any all divmod Exception ValueError TypeError KeyError IndexError LookupError ZeroDivisionError
ArithmeticError OverflowError RuntimeError NotImplementedError AttributeError StopIteration""".split()
METHODS = """append clear copy count endswith extend find get index insert isalnum isalpha isdigit islower isspace
isupper items join keys ljust lower lstrip partition pop remove replace reverse rfind rjust rpartition rsplit rstrip
setdefault split splitlines startswith strip update upper values zfill bit_length""".split()
OWN_DUNDERS = ("__init__", "__eq__", "__repr__", "__str__", "__len__")
NO_WORDS = """type typing typing_extensions enum Enum IntEnum StrEnum Flag IntFlag Generic Protocol ABC ABCMeta
namedtuple NamedTuple TypedDict TYPE_CHECKING abstractmethod""".split()
NO_PARTS = ("dataclass", "overload", "contextmanager")


def package_files():
    for folder, folders, files in os.walk(PACKAGE):
        folders[:] = [name for name in folders if name != "__pycache__"]
        for name in sorted(files):
            yield os.path.join(folder, name)


def bound_names(tree):
    for node in ast.walk(tree):
        if isinstance(node, (ast.FunctionDef, ast.ClassDef)):
            yield node.name
        elif isinstance(node, ast.arg):
            yield node.arg
        elif isinstance(node, ast.Name) and isinstance(node.ctx, ast.Store):
            yield node.id


class FormTest(unittest.TestCase):
    def setUp(self):
        self.texts = {}
        for path in package_files():
            with open(path, encoding="ascii", newline="") as file:
                self.texts[path] = file.read()
        self.trees = {path: ast.parse(text) for path, text in self.texts.items()}

    def nodes(self, *kinds):
        for path, tree in self.trees.items():
            for node in ast.walk(tree):
                if isinstance(node, kinds):
                    yield os.path.basename(path) + ":" + str(getattr(node, "lineno", 0)), node

    def test_files(self):
        self.assertIn(os.path.join(PACKAGE, "__init__.py"), self.texts)
        for path, text in self.texts.items():
            self.assertRegex(os.path.basename(path), r"^[a-z0-9_]+\.py$")
            self.assertRegex(text, r"\A[\n -~]*\Z")
            lines = text.split("\n")
            self.assertLessEqual(len(lines), 400, path)
            self.assertLessEqual(max(len(line) for line in lines), 120, path)

    def test_words(self):
        for path, text in self.texts.items():
            words = re.findall(r"\w+", text)
            self.assertEqual([word for word in words if word in NO_WORDS], [], path)
            self.assertEqual([part for part in NO_PARTS if part in text], [], path)

    def test_statements_and_expressions(self):
        for place, node in self.nodes(ast.stmt):
            self.assertIsInstance(node, STATEMENTS, place)
        for place, node in self.nodes(ast.expr):
            self.assertIsInstance(node, EXPRESSIONS, place)
        for place, node in self.nodes(ast.Assign):
            self.assertEqual(len(node.targets), 1, place)
        for place, node in self.nodes(ast.For, ast.While):
            self.assertEqual(node.orelse, [], place)
        for place, node in self.nodes(ast.Div):
            self.fail(place)
        for place, node in self.nodes(ast.ListComp):
            self.assertEqual(len(node.generators), 1, place)
            self.assertLessEqual(len(node.generators[0].ifs), 1, place)
        for place, node in self.nodes(ast.Constant):
            self.assertNotIsInstance(node.value, (float, bytes, complex), place)

    def test_imports(self):
        for place, node in self.nodes(ast.ImportFrom):
            self.assertEqual(node.level, 0, place)
            path = os.path.join(os.path.dirname(PACKAGE), *node.module.split(".")) + ".py"
            self.assertIn(path, self.trees, place)
            defined = [part.name for part in self.trees[path].body if hasattr(part, "name")]
            for alias in node.names:
                self.assertIn(alias.name, defined, place)

    def test_names(self):
        for path, tree in self.trees.items():
            for name in bound_names(tree):
                self.assertTrue(name in OWN_DUNDERS or re.fullmatch(r"[A-Za-z]\w*", name), (path, name))
                self.assertFalse(hasattr(builtins, name), (path, name))
        for place, node in self.nodes(ast.Name):
            if hasattr(builtins, node.id):
                self.assertIn(node.id, BUILTINS, place)

    def test_methods(self):
        own = [part.name for place, node in self.nodes(ast.ClassDef) for part in node.body if hasattr(part, "name")]
        for place, node in self.nodes(ast.Call):
            if isinstance(node.func, ast.Attribute):
                self.assertIn(node.func.attr, METHODS + own, place)

    def test_functions(self):
        for place, node in self.nodes(ast.FunctionDef):
            self.assertLessEqual(node.end_lineno - node.lineno + 1, 40, place)
            self.assertEqual(node.decorator_list, [], place)
            self.assertIsNone(node.args.vararg, place)
            self.assertIsNone(node.args.kwarg, place)
            self.assertEqual(node.args.kwonlyargs + node.args.posonlyargs, [], place)

    def test_is_stands_beside_none_true_and_false(self):
        for place, node in self.nodes(ast.Compare):
            for operator, other in zip(node.ops, node.comparators):
                if isinstance(operator, (ast.Is, ast.IsNot)):
                    self.assertIsInstance(other, ast.Constant, place)

    def test_sets_are_not_kept(self):
        parents = {}
        for place, node in self.nodes(ast.AST):
            for child in ast.iter_child_nodes(node):
                parents[child] = node
        for place, node in self.nodes(ast.Call):
            if isinstance(node.func, ast.Name) and node.func.id in ("set", "frozenset"):
                above = parents[node]
                calls = isinstance(above, ast.Call) and getattr(above.func, "id", "") in ("sorted", "len")
                self.assertTrue(calls or isinstance(above, (ast.Compare, ast.BinOp)), place)


if __name__ == "__main__":
    unittest.main()
