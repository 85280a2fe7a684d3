"""The form of the package's own code: those rules of LANGUAGE.md that are plain to look up, not all of them."""

import ast
import builtins
import pathlib
import re
import unittest

FOLDER = pathlib.Path(__file__).resolve().parent.parent / "nonebetter"

NODES = """Module Expr Assign AugAssign AnnAssign If While For Return Break Continue Pass Raise Try ExceptHandler
FunctionDef Lambda ClassDef ImportFrom alias arguments arg keyword
Constant List Tuple Dict Set BinOp UnaryOp BoolOp Compare IfExp Call Attribute Subscript Slice ListComp
comprehension JoinedStr FormattedValue Name Load Store
Add Sub Mult FloorDiv Mod Pow BitAnd BitOr BitXor LShift RShift Invert USub UAdd Not And Or
Eq NotEq Lt LtE Gt GtE Is IsNot In NotIn""".split()

OWN_NAMES = """len range enumerate zip min max sum abs sorted reversed int str bool list tuple dict set frozenset
isinstance ord repr any all divmod Exception ValueError TypeError KeyError IndexError LookupError ZeroDivisionError
ArithmeticError OverflowError RuntimeError NotImplementedError AttributeError StopIteration""".split()

METHODS = """append clear copy count endswith extend find get index insert isalnum isalpha isdigit islower isspace
isupper items join keys ljust lower lstrip partition pop remove replace reverse rfind rjust rpartition rsplit rstrip
setdefault split splitlines startswith strip update upper values zfill bit_length __init__""".split()

WORDS = """type typing typing_extensions enum Enum IntEnum StrEnum Flag IntFlag Generic Protocol ABC ABCMeta namedtuple
NamedTuple TypedDict TYPE_CHECKING abstractmethod""".split()

PARTS_OF_WORDS = ("dataclass", "overload", "contextmanager")

WALKED = ("zip", "enumerate", "reversed", "range")
WALKED_METHODS = ("items", "keys", "values")
WALKERS = ("list", "tuple", "dict", "sorted", "sum", "any", "all", "enumerate", "zip")


def package_files():
    return sorted(path for path in FOLDER.rglob("*") if "__pycache__" not in path.parts)


def faults_of_text(text):
    lines = text.split("\n")
    faults = [f"L10 line {number} is too long" for number, line in enumerate(lines, 1) if len(line) > 120]
    if len(text.splitlines()) > 400:
        faults.append("L10 the file is too long")
    if re.search(r"[^\n -~]", text):
        faults.append("L14 a sign that is not free")
    faults += [f"L17 the word {word}" for word in WORDS if re.search(rf"\b{word}\b", text)]
    return faults + [f"L17 the word {part}" for part in PARTS_OF_WORDS if part in text]


def faults_of_name(name, line):
    if not re.fullmatch(r"[A-Za-z][A-Za-z0-9_]*", name) and name not in ("__init__", "__all__", "__version__"):
        return [f"L12 line {line}: the name {name}"]
    if name in dir(builtins) and name not in OWN_NAMES:
        return [f"L8 line {line}: the name {name}"]
    return []


def faults_of_bound(name, line):
    if name in dir(builtins):
        return [f"L15 line {line}: {name} is given another meaning"]
    return faults_of_name(name, line)


def faults_of_def(node):
    faults = []
    if node.end_lineno - node.lineno >= 40:
        faults.append(f"L10 line {node.lineno}: {node.name} is too long")
    if node.decorator_list:
        faults.append(f"L4 line {node.lineno}: a decorator")
    given = node.args
    if given.vararg or given.kwarg or given.kwonlyargs or given.posonlyargs:
        faults.append(f"L4 line {node.lineno}: parameters that are not plain")
    return faults


def faults_of_value(node):
    if isinstance(node.value, (float, bytes, complex)) or node.value is ...:
        return [f"L7 line {node.lineno}: {node.value!r}"]
    if isinstance(node.value, str) and "%" in node.value:
        return [f"L27 line {node.lineno}: a percent sign"]
    return []


def faults_of_node(node, own):
    if isinstance(node, ast.ImportFrom):
        plain = node.level == 0 and node.module.startswith("nonebetter.") and node.names[0].name != "*"
        return [] if plain or node.module == "__future__" else [f"L2 line {node.lineno}: an import"]
    if isinstance(node, ast.FunctionDef):
        return faults_of_def(node)
    if isinstance(node, ast.Constant):
        return faults_of_value(node)
    if isinstance(node, ast.arg):
        return faults_of_bound(node.arg, node.lineno)
    if isinstance(node, ast.Name):
        bound = isinstance(node.ctx, ast.Store)
        return faults_of_bound(node.id, node.lineno) if bound else faults_of_name(node.id, node.lineno)
    if isinstance(node, ast.Attribute) and node.attr not in METHODS and node.attr not in own:
        return [f"L25 line {node.lineno}: {node.attr}"]
    if isinstance(node, (ast.For, ast.While)) and node.orelse or isinstance(node, ast.Try) and node.finalbody:
        return [f"L6 line {node.lineno}: an else behind a loop, or finally"]
    if isinstance(node, ast.Assign) and len(node.targets) > 1:
        return [f"L6 line {node.lineno}: several targets"]
    if isinstance(node, ast.Compare):
        return faults_of_compare(node)
    if isinstance(node, ast.ListComp) and (len(node.generators) > 1 or len(node.generators[0].ifs) > 1):
        return [f"L7 line {node.lineno}: a comprehension with more than one for or if"]
    if isinstance(node, ast.BinOp) and isinstance(node.op, ast.Pow) and not isinstance(node.right, ast.Constant):
        return [f"L27 line {node.lineno}: an exponent that is not written"]
    return []


def is_walked(node):
    called = node.func if isinstance(node, ast.Call) else None
    if isinstance(called, ast.Name):
        return called.id in WALKED
    return isinstance(called, ast.Attribute) and called.attr in WALKED_METHODS


def walks_at_once(parent, node):
    if isinstance(parent, (ast.For, ast.comprehension)):
        return parent.iter is node
    if isinstance(parent, ast.Call) and isinstance(parent.func, ast.Name):
        first = parent.args[:1] == [node]
        return parent.func.id in WALKERS and first or parent.func.id in ("min", "max") and parent.args == [node]
    return isinstance(parent, ast.Call) and getattr(parent.func, "attr", "") == "join"


def faults_of_walks(tree):
    faults = []
    for parent in ast.walk(tree):
        for node in ast.iter_child_nodes(parent):
            if is_walked(node) and not walks_at_once(parent, node):
                faults.append(f"L23 line {node.lineno}: not walked at once")
    return faults


def faults_of_compare(node):
    sides = [side for side in [node.left] + node.comparators if isinstance(side, ast.Constant)]
    plain = any(side.value is None or isinstance(side.value, bool) for side in sides)
    if not plain and any(isinstance(deed, (ast.Is, ast.IsNot)) for deed in node.ops):
        return [f"L20 line {node.lineno}: is"]
    return []


def faults_of_names(trees):
    """A name that is a method in one class and a value in another; of all files."""
    given = given_values(trees)
    return [f"L18 the name {name}" for name in methods_of(trees) if name in given]


def drawn_from(tree):
    return [node.module.split(".")[-1] for node in tree.body if isinstance(node, ast.ImportFrom)]


def defined_in(tree):
    """The names that a file defines at its top: functions, classes and values."""
    names = [part.name for part in tree.body if isinstance(part, (ast.FunctionDef, ast.ClassDef))]
    return names + [part.targets[0].id for part in tree.body if isinstance(part, ast.Assign)]


def faults_of_imports(trees):
    """A name that its file does not define, and rings of imports; trees is a dict from the files' plain names."""
    faults = []
    for name, tree in trees.items():
        for node in tree.body:
            if isinstance(node, ast.ImportFrom):
                there = defined_in(trees[node.module.split(".")[-1]])
                faults += [f"L16 {name}: {part.name}" for part in node.names if part.name not in there or part.asname]
        reached = drawn_from(tree)
        for other in reached:
            reached.extend(more for more in drawn_from(trees[other]) if more not in reached)
        faults += [f"L16 {name} draws from itself"] if name in reached else []
    return faults


def is_plain(node):
    """A value that may stand at a file's top: a constant, a name, or a list, tuple or dict of these."""
    if isinstance(node, ast.UnaryOp):
        return isinstance(node.op, ast.USub) and isinstance(node.operand, ast.Constant)
    if isinstance(node, (ast.List, ast.Tuple)):
        return all(is_plain(part) for part in node.elts)
    if isinstance(node, ast.Dict):
        return all(is_plain(part) for part in node.keys + node.values)
    return isinstance(node, (ast.Constant, ast.Name))


def faults_of_top(tree):
    faults = []
    for node in tree.body:
        plain = isinstance(node, (ast.ImportFrom, ast.FunctionDef, ast.ClassDef)) or is_docstring(node)
        if not plain and not (isinstance(node, ast.Assign) and is_plain(node.value)):
            faults.append(f"L3 line {node.lineno}: what stands at the top")
    return faults


def is_docstring(node):
    return isinstance(node, ast.Expr) and isinstance(node.value, ast.Constant) and isinstance(node.value.value, str)


def is_set(node):
    if isinstance(node, ast.BinOp):
        return is_set(node.left)
    called = node.func if isinstance(node, ast.Call) else None
    return isinstance(node, ast.Set) or isinstance(called, ast.Name) and called.id in ("set", "frozenset")


def faults_of_sets(tree):
    """Sets that stand elsewhere than beside in, == and !=, within sorted and len, or beside another one."""
    faults = []
    for parent in ast.walk(tree):
        called = parent.func if isinstance(parent, ast.Call) else None
        free = isinstance(called, ast.Name) and called.id in ("sorted", "len") and not parent.keywords
        free = free or isinstance(parent, ast.BinOp)
        if isinstance(parent, ast.Compare):
            free = all(isinstance(deed, (ast.In, ast.NotIn, ast.Eq, ast.NotEq)) for deed in parent.ops)
        for node in ast.iter_child_nodes(parent):
            if is_set(node) and not free:
                faults.append(f"L24 line {node.lineno}: a set that is kept or walked")
    return faults


def faults_of_tree(tree, own):
    faults = faults_of_walks(tree) + faults_of_top(tree) + faults_of_sets(tree)
    for node in ast.walk(tree):
        name = node.__class__.__name__
        if name not in NODES:
            faults.append(f"L6, L7 line {getattr(node, 'lineno', 0)}: {name}")
        faults += faults_of_node(node, own)
    return faults


def methods_of(trees):
    classes = [node for tree in trees for node in ast.walk(tree) if isinstance(node, ast.ClassDef)]
    return [part.name for node in classes for part in node.body if isinstance(part, ast.FunctionDef)]


def given_values(trees):
    """The values that are given to an object."""
    attributes = [node for tree in trees for node in ast.walk(tree) if isinstance(node, ast.Attribute)]
    return [node.attr for node in attributes if isinstance(node.ctx, ast.Store)]


class Form(unittest.TestCase):
    def test_files(self):
        self.assertTrue((FOLDER / "__init__.py").is_file())
        for path in package_files():
            self.assertTrue(path.is_file(), f"L1 {path.name}")
            self.assertRegex(path.name, r"\A([a-z][a-z0-9_]*|__init__|__main__)\.py\Z")

    def test_texts_and_trees(self):
        texts = {path.name: path.read_text("utf-8") for path in package_files()}
        trees = {name: ast.parse(text) for name, text in texts.items()}
        own = methods_of(trees.values()) + given_values(trees.values())
        for name, text in texts.items():
            self.assertEqual(faults_of_text(text) + faults_of_tree(trees[name], own), [], name)
        plain = {name.rpartition(".")[0]: tree for name, tree in trees.items()}
        self.assertEqual(faults_of_names(trees.values()) + faults_of_imports(plain), [])


class FormOfFaults(unittest.TestCase):
    """The looking itself: each of these is against a rule."""

    def test_each_is_seen(self):
        for text in (
            "import os", "from os import path", "from .rows import kept", "x = 1 / 2", "x = 0.5", "x = b''",
            "x = y = 1", "assert 1", "x = {1 for y in z}", "x = (y for y in z)", "x = open(y)", "sum = 1",
            "def f(*given):\n    pass", "def f(len):\n    pass", "_x = 1", "x = chr(5)", "x = y.sort()",
            "x = 2 ** y", "x = '%'", "for x in y:\n    pass\nelse:\n    pass", "# type", "x = 1\t",
            "def f():\n" + "    pass\n" * 40, "x = 1\n" * 401, "#" * 121, "def f():\n    yield 1",
            "x = y is z", "x = y is not 1", "x = zip(y, z)", "f(range(3))", "x = list(reversed(range(3)))",
            "x = d.items()", "x = zip(y, range(3))", "x = 10 ** 40", "x = f(1)", "f(1)", "x = [y]\nx.append(1)",
            "def f(x):\n    return set(x)", "def f(x):\n    y = set(x) - set(z)", "def f(x):\n    return {1, x}",
            "def f(x):\n    for y in set(x):\n        pass", "def f(x):\n    return list(set(x))",
        ):
            self.assertNotEqual(faults_of_text(text) + faults_of_tree(ast.parse(text), []), [], text[:60])

    def test_each_of_several_files_is_seen(self):
        method = ast.parse("class A:\n    def row(self):\n        pass")
        value = ast.parse("class B:\n    def f(self):\n        self.row = 1")
        self.assertNotEqual(faults_of_names([method, value]), [])
        one = ast.parse("from nonebetter.other import f\ndef g():\n    pass")
        other = ast.parse("from nonebetter.one import g\ndef f():\n    pass")
        self.assertNotEqual(faults_of_imports({"one": one, "other": other}), [])
        for text in ("def f():\n    pass", "class f:\n    pass", "f = (1, 2)"):
            self.assertEqual(faults_of_imports({"one": one, "other": ast.parse(text)}), [])
        self.assertNotEqual(faults_of_imports({"one": one, "other": ast.parse("def h():\n    pass")}), [])

    def test_what_is_not_against_a_rule(self):
        for text in (
            "x = y is None", "x = None is y", "x = list(zip(y, z))", "for x in range(3):\n    pass",
            "x = [y for y in reversed(z)]", "x = min(range(3))", "x = sorted(d.items())", "x = sorted(set(y) - set(z))",
            "x = len(set(y))", "x = set(y) == set(z)", "x = y in set(z)",
        ):
            inner = "def f(y, z, d):\n    " + text.replace("\n", "\n    ")
            self.assertEqual(faults_of_text(inner) + faults_of_tree(ast.parse(inner), []), [], text)
        for text in ('"""Words."""', "x = 1", "x = -1", "x = (1, 'y')", "x = {'y': (1, None)}", "def f():\n    pass\nx = [f]"):
            self.assertEqual(faults_of_text(text) + faults_of_tree(ast.parse(text), []), [], text)


if __name__ == "__main__":
    unittest.main()
