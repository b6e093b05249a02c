"""Holds the package's files to those rules of the language's part that can be read off a syntax tree."""

import ast
import builtins
import os
import re
import unittest

PACKAGE = os.path.join(os.path.dirname(os.path.dirname(os.path.abspath(__file__))), "twobanks")

STATEMENTS = (ast.Assign, ast.AugAssign, ast.If, ast.While, ast.For, ast.Return, ast.Break, ast.Continue, ast.Pass,
              ast.Raise, ast.Try, ast.Expr, ast.FunctionDef, ast.ClassDef, ast.ImportFrom)
EXPRESSIONS = (ast.BinOp, ast.UnaryOp, ast.BoolOp, ast.Compare, ast.IfExp, ast.Call, ast.Attribute, ast.Subscript,
               ast.Slice, ast.ListComp, ast.JoinedStr, ast.FormattedValue, ast.Constant, ast.Name, ast.List, ast.Tuple,
               ast.Dict, ast.Set, ast.Lambda)
ERRORS = """Exception ValueError TypeError KeyError IndexError LookupError ZeroDivisionError ArithmeticError
OverflowError RuntimeError NotImplementedError AttributeError StopIteration""".split()
BUILTINS = ERRORS + """len range enumerate zip min max sum abs sorted reversed int str bool list tuple dict set
frozenset isinstance ord repr any all divmod""".split()
METHODS = """append clear copy count endswith extend find get index insert isalnum isalpha isdigit islower isspace
isupper items join keys ljust lower lstrip partition pop remove replace reverse rfind rjust rpartition rsplit rstrip
setdefault split splitlines startswith strip update upper values zfill bit_length""".split()
CHANGES = "append clear extend insert pop remove reverse setdefault update".split()
FREE_VALUES = "count index title find get join lower upper split strip copy add".split()
OWN_DUNDERS = ("__init__", "__eq__", "__repr__", "__str__", "__len__")
NO_WORDS = """type typing typing_extensions enum Enum IntEnum StrEnum Flag IntFlag Generic Protocol ABC ABCMeta
namedtuple NamedTuple TypedDict TYPE_CHECKING abstractmethod""".split()
NO_PARTS = ("dataclass", "overload", "contextmanager")
NO_NAMES = """register mro elements open input version_info with_traceback add_note format format_map attrgetter
builtins gc importlib methodcaller os sys __name__""".split()
WALKED = ("zip", "enumerate", "reversed", "range", "items", "keys", "values")
WALKERS = "list tuple dict sorted sum any all enumerate zip min max join".split()
KEYWORDS = {"sorted": ("key", "reverse"), "min": ("key", "default"), "max": ("key", "default"), "sum": ("start",),
            "enumerate": ("start",), "zip": ("strict",)}
PLAIN = (ast.Constant, ast.List, ast.Tuple, ast.Dict, ast.Name, ast.Load, ast.UnaryOp, ast.USub)


def name_of(node):
    """The name that a call, an attribute or a name ends with."""
    if isinstance(node, ast.Call):
        return name_of(node.func)
    return getattr(node, "id", getattr(node, "attr", ""))


def bound_names(tree):
    for node in ast.walk(tree):
        if isinstance(node, (ast.FunctionDef, ast.ClassDef)):
            yield node, node.name
        elif isinstance(node, ast.arg):
            yield node, node.arg
        elif isinstance(node, ast.Name) and isinstance(node.ctx, ast.Store):
            yield node, node.id
        elif isinstance(node, ast.ExceptHandler) and node.name:
            yield node, node.name


def top_names(tree):
    for node in tree.body:
        if isinstance(node, ast.ImportFrom):
            yield from [(node, alias.asname or alias.name) for alias in node.names]
        elif isinstance(node, ast.Assign):
            yield from bound_names(node)
        elif hasattr(node, "name"):
            yield node, node.name


def parents_of(tree):
    return {child: node for node in ast.walk(tree) for child in ast.iter_child_nodes(node)}


def faults_of_text(text):
    """Rules L1, L10, L14, L17 and L27, over the letters of a file."""
    lines = text.split("\n")
    words = re.findall(r"\w+", text)
    checks = (("L14", re.fullmatch(r"[\n -~]*", text)), ("L10", len(lines) <= 400),
              ("L10", max(len(line) for line in lines) <= 120),
              ("L17", not any(word in NO_WORDS for word in words)),
              ("L17", not any(part in text for part in NO_PARTS)),
              ("L27", not re.search(r"\\[^nt\\'\"\n]", text)))
    return [rule for rule, kept in checks if not kept]


def faults_of_statement(node):
    checks = [("L6", isinstance(node, STATEMENTS))]
    if isinstance(node, ast.Assign):
        checks.append(("L6", len(node.targets) == 1))
    if isinstance(node, (ast.For, ast.While)):
        checks.append(("L6", node.orelse == []))
    if isinstance(node, ast.Try):
        checks.append(("L6", node.finalbody == []))
    if isinstance(node, ast.Expr):
        checks.append(("L6", isinstance(node.value, (ast.Call, ast.Constant))))
    if isinstance(node, ast.Raise):
        checks.append(("L19", isinstance(node.exc, ast.Call)))
    return [rule for rule, kept in checks if not kept]


def faults_of_function(node):
    arguments = node.args
    plain = [part for default in arguments.defaults for part in ast.walk(default)]
    annotations = [node.returns] + [each.annotation for each in arguments.args]
    checks = [("L10", node.end_lineno - node.lineno + 1 <= 40), ("L4", node.decorator_list == []),
              ("L4", arguments.vararg is None and arguments.kwarg is None),
              ("L4", arguments.kwonlyargs + arguments.posonlyargs == []),
              ("L4", all(isinstance(part, PLAIN) for part in plain)),
              ("L21", not any(annotations))]
    if node.name == "__init__":
        returns = [part for part in ast.walk(node) if isinstance(part, ast.Return)]
        checks.append(("L28", not any(part.value for part in returns)))
    return [rule for rule, kept in checks if not kept]


def faults_of_class(node):
    methods = [part.name for part in node.body if isinstance(part, ast.FunctionDef)]
    others = [part for part in node.body if not isinstance(part, ast.FunctionDef)]
    idle = [part for part in others
            if isinstance(part, ast.Pass) or isinstance(part, ast.Expr) and isinstance(part.value, ast.Constant)]
    dunders = [name for name in methods if name.startswith("_")]
    checks = (("L5", len(node.bases) <= 1 and node.keywords == [] and node.decorator_list == []),
              ("L5", idle == others),
              ("L5", all(name in OWN_DUNDERS for name in dunders)),
              ("L18", len(set(methods)) == len(methods)))
    return [rule for rule, kept in checks if not kept]


def faults_of_expression(node, above):
    checks = [("L7", isinstance(node, EXPRESSIONS))]
    if isinstance(node, ast.BinOp):
        checks.append(("L7", not isinstance(node.op, (ast.Div, ast.MatMult))))
        power = isinstance(node.op, ast.Pow)
        checks.append(("L27", not power or isinstance(node.right, ast.Constant) and 0 <= node.right.value <= 64))
    if isinstance(node, ast.ListComp):
        checks.append(("L7", len(node.generators) == 1 and len(node.generators[0].ifs) <= 1))
    if isinstance(node, ast.Constant):
        checks.append(("L7", not isinstance(node.value, (float, bytes, complex))))
        checks.append(("L27", not isinstance(node.value, str) or "%" not in node.value))
    if isinstance(node, ast.FormattedValue):
        checks.append(("L7", isinstance(node.value, ast.Name) and node.format_spec is None))
        checks.append(("L7", node.conversion in (-1, ord("r"))))
    if isinstance(node, ast.Compare) and any(isinstance(part, (ast.Is, ast.IsNot)) for part in node.ops):
        beside = node.comparators[0]
        checks.append(("L20", isinstance(beside, ast.Constant) and repr(beside.value) in ("None", "True", "False")))
    if isinstance(node, ast.Call):
        checks.extend(checks_of_call(node, above))
    return [rule for rule, kept in checks if not kept]


def checks_of_call(node, above):
    name = name_of(node)
    kinds = [keyword.arg for keyword in node.keywords]
    yield "L22", all(kind in KEYWORDS.get(name, ()) for kind in kinds)
    if name in WALKED:
        walked = isinstance(above, (ast.For, ast.comprehension)) and above.iter == node
        yield "L23", walked or isinstance(above, ast.Call) and name_of(above) in WALKERS and above.args[0] == node
    if isinstance(node.func, ast.Name) and name in ("set", "frozenset"):
        calls = isinstance(above, ast.Call) and name_of(above) in ("sorted", "len") and above.keywords == []
        yield "L24", calls or isinstance(above, (ast.Compare, ast.BinOp))


def faults_of_names(tree):
    """Rules L8, L12, L15, L17 and L22: how names are given and which ones are used."""
    tops = [name for node, name in top_names(tree)]
    drawn = [name for node, name in top_names(tree) if isinstance(node, (ast.ImportFrom, ast.ClassDef))]
    parents = parents_of(tree)
    for name in set(tops):
        if tops.count(name) > 1:
            yield "L15"
    for node, name in bound_names(tree):
        if name not in OWN_DUNDERS and not re.fullmatch(r"[A-Za-z][A-Za-z0-9_]*", name):
            yield "L12"
        if name not in OWN_DUNDERS and hasattr(builtins, name) and not isinstance(parents.get(node), ast.ClassDef):
            yield "L15"
        if name in drawn and node not in tree.body:
            yield "L15"
    for node in ast.walk(tree):
        if isinstance(node, (ast.Name, ast.Attribute)) and name_of(node) in NO_NAMES:
            yield "L17"
        if isinstance(node, ast.Attribute) and node.attr.startswith("_") and node.attr not in OWN_DUNDERS:
            yield "L8"
        if isinstance(node, ast.Name) and hasattr(builtins, node.id):
            if node.id not in BUILTINS:
                yield "L8"
            if isinstance(parents[node], ast.Return):
                yield "L22"


def faults_of_top(tree):
    for node in tree.body:
        text = isinstance(node, ast.Expr) and isinstance(node.value, ast.Constant) and node is tree.body[0]
        value = isinstance(node, ast.Assign) and all(isinstance(part, PLAIN) for part in ast.walk(node.value))
        if not text and not value and not isinstance(node, (ast.ImportFrom, ast.FunctionDef, ast.ClassDef)):
            yield "L3"
    for node in ast.walk(tree):
        if isinstance(node, (ast.ImportFrom, ast.ClassDef)) and node not in tree.body:
            yield "L2"


def faults_of_loops(tree):
    """Rule L23: what a loop walks is not changed in it."""
    for loop in ast.walk(tree):
        if isinstance(loop, ast.For):
            walked = [ast.dump(part) for part in ast.walk(loop.iter) if isinstance(part, (ast.Name, ast.Attribute))]
            for node in [part for line in loop.body for part in ast.walk(line)]:
                changed = None
                if isinstance(node, ast.Call) and isinstance(node.func, ast.Attribute) and node.func.attr in CHANGES:
                    changed = node.func.value
                if isinstance(node, ast.Subscript) and isinstance(node.ctx, ast.Store):
                    changed = node.value
                if changed is not None and ast.dump(changed) in walked and name_of(loop.iter) not in ("list", "sorted"):
                    yield "L23"


def classes_of(trees):
    return [node for tree in trees.values() for node in tree.body if isinstance(node, ast.ClassDef)]


def faults_of_class_use(tree, classes):
    """Rules L18 and L19: where a class may stand, and which errors are taken."""
    parents = parents_of(tree)
    for node in ast.walk(tree):
        if isinstance(node, ast.Name) and node.id in classes:
            above = parents[node]
            called = isinstance(above, ast.Call) and (above.func == node or name_of(above) == "isinstance")
            if not called and not isinstance(above, (ast.ClassDef, ast.ExceptHandler)):
                yield "L18"
        if isinstance(node, ast.ExceptHandler) and name_of(node.type) not in classes:
            yield "L19"


def faults_of_attributes(trees):
    """Rules L18, L25 and L26: methods and values of objects."""
    methods = [part.name for node in classes_of(trees) for part in node.body if isinstance(part, ast.FunctionDef)]
    own = [name for kind in (str, int, list, dict, set, bytes, tuple, ValueError) for name in dir(kind)]
    for tree in trees.values():
        called = [node.func for node in ast.walk(tree) if isinstance(node, ast.Call)]
        for node in ast.walk(tree):
            if isinstance(node, ast.Attribute) and isinstance(node.ctx, ast.Store):
                if node.attr in methods:
                    yield "L18"
                if node.attr in own and node.attr not in FREE_VALUES:
                    yield "L26"
            elif isinstance(node, ast.Attribute) and node in called and node.attr not in METHODS + methods:
                yield "L25"
            elif isinstance(node, ast.Attribute) and node not in called and node.attr in METHODS + methods:
                yield "L25"


def faults_of_imports(trees):
    """Rules L2 and L16: names are drawn from the very file that defines them, and never round about."""
    draws = {name: [] for name in trees}
    for name, tree in trees.items():
        for node in ast.walk(tree):
            if isinstance(node, ast.Import):
                yield "L2"
            if isinstance(node, ast.ImportFrom):
                source = (node.module or "").removeprefix("twobanks.") + ".py"
                if node.level != 0 or not (node.module or "").startswith("twobanks.") or source not in trees:
                    yield "L2"
                    continue
                draws[name].append(source)
                defined = [part.name for part in trees[source].body if hasattr(part, "name")]
                if any(alias.asname or alias.name not in defined for alias in node.names):
                    yield "L16"
    for name in draws:
        drawn = list(draws[name])
        for source in drawn:
            drawn.extend(each for each in draws[source] if each not in drawn)
        if name in drawn:
            yield "L16"


def faults_of_nodes(tree):
    parents = parents_of(tree)
    for node in ast.walk(tree):
        if isinstance(node, ast.stmt):
            yield from faults_of_statement(node)
        if isinstance(node, ast.FunctionDef):
            yield from faults_of_function(node)
        if isinstance(node, ast.ClassDef):
            yield from faults_of_class(node)
        if isinstance(node, ast.expr):
            yield from faults_of_expression(node, parents[node])


def faults(texts):
    """The rules that the files break, each with the file's name; texts tells each file's text by its name."""
    trees = {name: ast.parse(text) for name, text in texts.items()}
    classes = [node.name for node in classes_of(trees)]
    found = [("L1", name) for name in texts if not re.fullmatch(r"[a-z0-9_]+\.py", name)]
    for name, text in texts.items():
        tree = trees[name]
        for rules in (faults_of_text(text), faults_of_nodes(tree), faults_of_names(tree), faults_of_top(tree),
                      faults_of_loops(tree), faults_of_class_use(tree, classes)):
            found.extend((rule, name) for rule in rules)
    found.extend((rule, "package") for rule in faults_of_attributes(trees))
    found.extend((rule, "package") for rule in faults_of_imports(trees))
    return found


def texts_of_package():
    texts = {}
    for folder, folders, files in os.walk(PACKAGE):
        folders[:] = [name for name in folders if name != "__pycache__"]
        for name in files:
            path = os.path.join(folder, name)
            with open(path, encoding="ascii", newline="") as file:
                texts[os.path.relpath(path, PACKAGE)] = file.read()
    return texts


BAD = (
    ("L2", "import os\n"),
    ("L2", "from os import path\n"),
    ("L2", "from .errors import NoPoint\n"),
    ("L2", "def f():\n    from twobanks.errors import NoPoint\n"),
    ("L16", "from twobanks.errors import nothing\n"),
    ("L16", "from twobanks.errors import NoPoint as other\n"),
    ("L3", "print(1)\n"),
    ("L3", "a = [x for x in (1, 2)]\n"),
    ("L4", "def f(*a):\n    pass\n"),
    ("L4", "def f(a, *, b):\n    pass\n"),
    ("L4", "def f(a=len(())):\n    pass\n"),
    ("L21", "def f(a: int):\n    pass\n"),
    ("L5", "class A:\n    a = 1\n"),
    ("L5", "class A:\n    def __add__(self):\n        pass\n"),
    ("L18", "class A:\n    def f(self):\n        pass\n    def f(self):\n        pass\n"),
    ("L6", "def f():\n    a = b = 1\n"),
    ("L6", "def f(a):\n    del a\n"),
    ("L6", "def f(a):\n    assert a\n"),
    ("L6", "def f():\n    for a in ():\n        pass\n    else:\n        pass\n"),
    ("L6", "def f(a):\n    a == 1\n"),
    ("L6", "def f():\n    try:\n        pass\n    finally:\n        pass\n"),
    ("L7", "def f(a):\n    return a / 2\n"),
    ("L7", "def f(a):\n    return 1.5\n"),
    ("L7", "def f(a):\n    return {x: 1 for x in a}\n"),
    ("L7", "def f(a):\n    return [x for y in a for x in y]\n"),
    ("L7", "def f(a):\n    return any(x for x in a)\n"),
    ("L7", "def f(a):\n    return (*a, 1)\n"),
    ("L7", "def f(a):\n    return f'{a + 1}'\n"),
    ("L8", "def f(a):\n    return hash(a)\n"),
    ("L8", "def f(a):\n    return a.__dict__\n"),
    ("L10", "def f(a):\n" + "    pass\n" * 41),
    ("L10", "# " + "a" * 120 + "\n"),
    ("L10", "\n" * 400),
    ("L12", "def f(_a):\n    pass\n"),
    ("L15", "def f():\n    pass\ndef f():\n    pass\n"),
    ("L15", "def f(max):\n    pass\n"),
    ("L15", "from twobanks.errors import NoPoint\ndef f(NoPoint):\n    pass\n"),
    ("L14", "# \t\n"),
    ("L17", "# a type\n"),
    ("L17", "def f(a):\n    return a.elements\n"),
    ("L18", "class A:\n    pass\ndef f():\n    return A\n"),
    ("L18", "class A:\n    def f(self):\n        pass\nclass B:\n    def __init__(self):\n        self.f = 1\n"),
    ("L19", "def f():\n    try:\n        pass\n    except Exception:\n        pass\n"),
    ("L19", "def f(e):\n    raise e\n"),
    ("L20", "def f(a):\n    return a is 1\n"),
    ("L22", "def f(a):\n    return sorted(a, reversed=True)\n"),
    ("L22", "def f():\n    return len\n"),
    ("L23", "def f(a):\n    b = zip(a, a)\n    return b\n"),
    ("L23", "def f(a):\n    return a.items()\n"),
    ("L23", "def f(a):\n    for b in a:\n        a.append(b)\n"),
    ("L23", "def f(a):\n    for b in enumerate(a):\n        a[0] = b\n"),
    ("L24", "def f(a):\n    b = set(a)\n    return b\n"),
    ("L25", "def f(a):\n    a.sort()\n"),
    ("L25", "def f(a):\n    return a.append\n"),
    ("L26", "class A:\n    def __init__(self):\n        self.items = 1\n"),
    ("L27", "def f(a):\n    return 2 ** a\n"),
    ("L27", "def f(a):\n    return '50 %'\n"),
    ("L27", "def f(a):\n    return '\\x41'\n"),
    ("L28", "class A:\n    def __init__(self):\n        return None\n"),
)


class FormTest(unittest.TestCase):
    def test_the_package_keeps_to_the_rules(self):
        texts = texts_of_package()
        wanted = ["__init__.py", "banks.py", "errors.py", "pairing.py", "roles.py", "sets.py", "story.py"]
        self.assertEqual(sorted(texts), wanted)
        self.assertEqual(faults(texts), [])

    def test_what_breaks_a_rule_is_seen(self):
        errors = "class NoPoint(ValueError):\n    pass\n"
        self.assertEqual(faults({"errors.py": errors}), [])
        for rule, text in BAD:
            found = faults({"errors.py": errors, "bad.py": text})
            self.assertIn(rule, [each for each, name in found], text)

    def test_files_that_draw_from_one_another(self):
        first = "from twobanks.second import two\ndef one():\n    pass\n"
        second = "from twobanks.first import one\ndef two():\n    pass\n"
        self.assertIn(("L16", "package"), faults({"first.py": first, "second.py": second}))
        self.assertEqual(faults({"first.py": first, "second.py": "def two():\n    pass\n"}), [])
        self.assertEqual(faults({"First.py": ""})[0], ("L1", "First.py"))


if __name__ == "__main__":
    unittest.main()
