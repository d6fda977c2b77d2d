"""The package keeps to ../shared/LANGUAGE.md: those of its rules that can be read off the code."""

import ast
import builtins
import pathlib
import re
import unittest

PACKAGE = pathlib.Path(__file__).resolve().parent.parent / "besidewords"

OWN_NAMES = set("""len range enumerate zip min max sum abs sorted reversed int str bool list tuple dict set frozenset
    isinstance ord repr any all divmod Exception ValueError TypeError KeyError IndexError LookupError ZeroDivisionError
    ArithmeticError OverflowError RuntimeError NotImplementedError AttributeError StopIteration""".split())
OWN_METHODS = set("""append clear copy count endswith extend find get index insert isalnum isalpha isdigit islower
    isspace isupper items join keys ljust lower lstrip partition pop remove replace reverse rfind rjust rpartition
    rsplit rstrip setdefault split splitlines startswith strip update upper values zfill bit_length""".split())
METHODS_WITH_UNDERSCORES = {"__init__", "__eq__", "__repr__", "__str__", "__len__"}
NOT_USED = set("""register mro elements open input version_info with_traceback add_note format format_map attrgetter
    breakpoint builtins compile copyright credits delattr dir eval exec exit gc getattr globals hasattr help id
    importlib license locals methodcaller os quit setattr super type vars sys chr""".split())
WORDS = re.compile(r"""\b(type|typing|typing_extensions|enum|Enum|IntEnum|StrEnum|Flag|IntFlag|Generic|Protocol|ABC
    |ABCMeta|namedtuple|NamedTuple|TypedDict|TYPE_CHECKING|abstractmethod)\b|dataclass|overload|contextmanager""", re.X)
NODES = set("""Module Expr Constant ImportFrom alias FunctionDef ClassDef arguments arg Return Assign AugAssign If
    While For Break Continue Pass Raise Try ExceptHandler Call Attribute Subscript Slice Name Load Store List Tuple
    Dict Set ListComp comprehension Lambda IfExp BoolOp And Or UnaryOp Not USub UAdd Invert BinOp Add Sub Mult FloorDiv
    Mod Pow BitAnd BitOr BitXor LShift RShift Compare Eq NotEq Lt LtE Gt GtE Is IsNot In NotIn JoinedStr FormattedValue
    keyword""".split())
VALUES_LIKE_METHODS = set("count index title find get join lower upper split strip copy add".split())
WALKED = {"zip", "enumerate", "reversed", "range", "items", "keys", "values"}
WALKERS = {"list", "tuple", "dict", "sorted", "sum", "any", "all", "enumerate", "zip", "min", "max", "join"}


def faults(source, others=()):
    """The faults of one file of the package, each a text; others are the methods that other files have."""
    told = text_faults(source)
    tree = ast.parse(source)
    parents = {child: node for node in ast.walk(tree) for child in ast.iter_child_nodes(node)}
    bound = top_names(tree)
    methods = OWN_METHODS | set(others) | methods_of(tree)
    told += top_faults(tree)
    for node in ast.walk(tree):
        line = getattr(node, "lineno", 0)
        for fault in node_faults(node, parents, bound, methods):
            told.append(f"{line}: {fault}")
    return told


def methods_of(tree):
    return {part.name for node in tree.body if isinstance(node, ast.ClassDef)
            for part in node.body if isinstance(part, ast.FunctionDef)}


def values_of(tree):
    """What is given to objects: self.name = .."""
    return {node.attr for node in ast.walk(tree) if isinstance(node, ast.Attribute) and isinstance(node.ctx, ast.Store)}


def class_faults(trees):
    """Faults in the names of methods and values, over all files of the package."""
    methods = set().union(*map(methods_of, trees))
    values = set().union(*map(values_of, trees))
    pythons = {name for kind in (str, int, list, tuple, dict, set, bytes) for name in dir(kind)}
    told = ["L18 " + name for name in methods & values]
    told += ["L26 " + name for name in methods & pythons - OWN_METHODS - METHODS_WITH_UNDERSCORES - {"add", "discard"}]
    told += ["L26 " + name for name in values & (pythons | {"args"}) - VALUES_LIKE_METHODS]
    for node in [node for tree in trees for node in tree.body if isinstance(node, ast.ClassDef)]:
        names = [part.name for part in node.body if isinstance(part, ast.FunctionDef)]
        told += ["L18 twice " + name for name in set(names) if names.count(name) > 1]
        for part in node.body:
            if getattr(part, "name", None) == "__init__":
                returns = [inner for inner in ast.walk(part) if isinstance(inner, ast.Return)]
                told += ["L28 " + node.name for inner in returns if inner.value is not None]
    return told


def text_faults(source):
    told = []
    lines = source.split("\n")
    if len(lines) > 400:
        told.append("L10 file")
    for number, line in enumerate(lines, start=1):
        if len(line) > 120:
            told.append(f"{number}: L10 line")
        if re.search(r"[^ -~]", line):
            told.append(f"{number}: L14 sign")
        if WORDS.search(line):
            told.append(f"{number}: L17 word")
    return told


def top_names(tree):
    """Classes and imports, whose names no parameter and no local bears."""
    names = set()
    for node in tree.body:
        if isinstance(node, ast.ClassDef):
            names.add(node.name)
        if isinstance(node, ast.ImportFrom):
            names.update(alias.asname or alias.name for alias in node.names)
    return names


def top_faults(tree):
    told = []
    names = []
    for number, node in enumerate(tree.body):
        if isinstance(node, (ast.FunctionDef, ast.ClassDef)):
            names.append(node.name)
        elif isinstance(node, ast.ImportFrom):
            names += [alias.asname or alias.name for alias in node.names]
        elif isinstance(node, ast.Assign) and isinstance(node.targets[0], ast.Name):
            names.append(node.targets[0].id)
        elif not (number == 0 and isinstance(node, ast.Expr) and isinstance(node.value, ast.Constant)):
            told.append(f"{node.lineno}: L3")
    if len(names) != len(set(names)):
        told.append("L15 a name twice")
    return told


def node_faults(node, parents, bound, methods):
    kind = node.__class__.__name__
    if kind not in NODES:
        yield "L6 or L7 " + kind
    parent = parents.get(node)
    if isinstance(node, ast.ImportFrom):
        if node.level or not (node.module or "").startswith("besidewords."):
            yield "L2"
    if isinstance(node, (ast.FunctionDef, ast.Lambda)):
        yield from function_faults(node, parent)
    if isinstance(node, ast.ClassDef):
        if node.decorator_list or node.keywords or len(node.bases) > 1 or not isinstance(parent, ast.Module):
            yield "L5"
        if not all(isinstance(part, (ast.FunctionDef, ast.Pass)) for part in node.body):
            yield "L5 body"
    yield from name_faults(node, bound)
    yield from value_faults(node, parent)
    yield from statement_faults(node)
    if isinstance(node, ast.Call):
        yield from call_faults(node, parent, methods)
    elif isinstance(node, ast.Attribute) and isinstance(node.ctx, ast.Load):
        if node.attr in OWN_METHODS and not (isinstance(parent, ast.Call) and parent.func == node):
            yield "L25 handed on " + node.attr


def function_faults(node, parent):
    arguments = node.args
    if arguments.vararg or arguments.kwarg or arguments.kwonlyargs or arguments.posonlyargs:
        yield "L4 parameters"
    if isinstance(node, ast.FunctionDef):
        if node.decorator_list:
            yield "L4 decorator"
        if node.end_lineno - node.lineno >= 40:
            yield "L10 function"
        allowed = isinstance(parent, ast.ClassDef) and node.name in METHODS_WITH_UNDERSCORES
        if node.name.startswith("_") and not allowed:
            yield "L12 " + node.name


def name_faults(node, bound):
    name = node.id if isinstance(node, ast.Name) else node.arg if isinstance(node, ast.arg) else None
    if isinstance(node, ast.Attribute) and (node.attr in NOT_USED or (
            node.attr.startswith("_") and node.attr not in METHODS_WITH_UNDERSCORES)):
        yield "L12 or L17 " + node.attr
    if name is None:
        return
    if name.startswith("_") or name in NOT_USED:
        yield "L12 or L17 " + name
    if isinstance(node, ast.arg) or isinstance(node.ctx, ast.Store):
        if hasattr(builtins, name) or name in bound:
            yield "L15 " + name
    elif hasattr(builtins, name) and name not in OWN_NAMES:
        yield "L8 " + name


def value_faults(node, parent):
    if isinstance(node, ast.Constant):
        if isinstance(node.value, (float, bytes, complex)):
            yield "L7 value"
        if isinstance(node.value, str) and ("%" in node.value):
            yield "L27 sign"
    if isinstance(node, ast.ListComp) and (len(node.generators) > 1 or len(node.generators[0].ifs) > 1):
        yield "L7 comprehension"
    if isinstance(node, ast.FormattedValue) and not (isinstance(node.value, ast.Name) and node.format_spec is None):
        yield "L7 f-string"
    if isinstance(node, ast.Starred):
        yield "L7 star"
    if isinstance(node, ast.Compare) and any(isinstance(sign, (ast.Is, ast.IsNot)) for sign in node.ops):
        if not any(isinstance(side, ast.Constant) for side in [node.left] + node.comparators):
            yield "L20"
    if isinstance(node, ast.BinOp) and isinstance(node.op, ast.Pow) and not isinstance(node.right, ast.Constant):
        yield "L27 power"
    if isinstance(node, ast.Expr) and not isinstance(node.value, ast.Call) and not isinstance(parent, ast.Module):
        yield "L6 value by itself"


def statement_faults(node):
    if isinstance(node, ast.Assign) and (len(node.targets) > 1 or isinstance(node.targets[0], (ast.Tuple, ast.List))):
        yield "L6 targets"
    if isinstance(node, (ast.For, ast.While)) and node.orelse:
        yield "L6 else"
    if isinstance(node, ast.Try) and node.finalbody:
        yield "L6 finally"
    if isinstance(node, ast.ExceptHandler):
        names = [part.id for part in ast.walk(node.type) if isinstance(part, ast.Name)] if node.type else []
        if not names or "Exception" in names or "TypeError" in names:
            yield "L19"
    if isinstance(node, ast.Raise) and not isinstance(node.exc, ast.Call):
        yield "L19 raise"


def called(node):
    if isinstance(node, ast.Call):
        return node.func.id if isinstance(node.func, ast.Name) else getattr(node.func, "attr", None)
    return None


def call_faults(node, parent, methods):
    name = called(node)
    if isinstance(node.func, ast.Attribute) and name not in methods:
        yield "L25 " + name
    if name in WALKED:
        on_the_spot = isinstance(parent, (ast.For, ast.comprehension)) and parent.iter == node
        handed_on = called(parent) in WALKERS and (parent.args[:1] == [node] or called(parent) == "zip")
        if not on_the_spot and not handed_on:
            yield "L23 " + name
    if name in ("set", "frozenset"):
        if not isinstance(parent, (ast.Compare, ast.BinOp)) and called(parent) not in ("sorted", "len"):
            yield "L24"


class Language(unittest.TestCase):
    def test_the_package_keeps_to_the_rules(self):
        files = sorted(PACKAGE.glob("*.py"))
        self.assertIn(PACKAGE / "__init__.py", files)
        sources = {file.name: file.read_text(encoding="utf-8") for file in files}
        trees = [ast.parse(source) for source in sources.values()]
        methods = set().union(*map(methods_of, trees))
        for name, source in sources.items():
            self.assertEqual(faults(source, methods), [], name)
        self.assertEqual(class_faults(trees), [])

    def test_nothing_else_lies_in_the_package(self):
        others = [path.name for path in PACKAGE.iterdir() if path.suffix != ".py" and path.name != "__pycache__"]
        self.assertEqual(others, [])
        for path in PACKAGE.glob("*.py"):
            self.assertRegex(path.name, r"\A([a-z][a-z0-9_]*|__init__|__main__)\.py\Z")

    def test_names_are_drawn_from_the_file_that_defines_them_and_no_two_files_from_one_another(self):
        trees = {}
        drawn = {}
        for file in PACKAGE.glob("*.py"):
            tree = ast.parse(file.read_text(encoding="utf-8"))
            trees["besidewords." + file.stem] = tree
            drawn["besidewords." + file.stem] = [node for node in tree.body if isinstance(node, ast.ImportFrom)]
        for module, imports in drawn.items():
            for node in imports:
                names = {getattr(part, "name", None) for part in trees[node.module].body}
                names |= {part.targets[0].id for part in trees[node.module].body if isinstance(part, ast.Assign)}
                self.assertLessEqual({alias.name for alias in node.names}, names, "L16 " + module)
        left = set(drawn)
        while left:
            free = {module for module in left if not left & {node.module for node in drawn[module]}}
            self.assertTrue(free, f"L16 {sorted(left)}")
            left -= free

    def test_good_code_is_let_by(self):
        self.assertEqual(faults('"""Why."""\nXS = (1, 2)\n\n\ndef f(a, b=1):\n    return sorted(set(a + [b]))\n'), [])

    def test_code_outside_the_rules_is_found(self):
        for source in (
                "import re", "from .errors import Twice", "from os import path", "X = 1\nX = 2", "X = 1.5", "X = b''",
                "def f(*xs):\n    return xs", "def f(x):\n    assert x", "def f(x):\n    return x / 2", "print(1)",
                "def f(xs):\n    return {x: 1 for x in xs}", "def f(xs):\n    return sum(x for x in xs)",
                "def f(xs):\n    xs.sort()", "def f(x):\n    return hash(x)", "def f(id):\n    return 1",
                "def f(x):\n    a = b = x", "def f(x):\n    a, b = x", "def f(x):\n    global y", "def _f():\n    pass",
                "def f(x):\n    return f'{x:3}'", "def f(x):\n    return 'a % b'", "# the type of it", "# caf\u00e9",
                "def f(x):\n\treturn x", "X = '" + "a" * 120 + "'", "def f():\n" + "    pass\n" * 40,
                "class A:\n    x = 1", "class A:\n    pass\n\n\ndef f(A):\n    return 1",
                "def f(x):\n    return x is f",
                "def f(xs):\n    return zip(xs, xs)", "def f(xs):\n    return set(xs)", "def f(n):\n    return 2 ** n",
                "def f(x):\n    try:\n        g(x)\n    except:\n        pass", "def f(x):\n    for y in x:\n        "
                "pass\n    else:\n        pass", "def f(x):\n    return x.append", "def f(x):\n    yield x"):
            self.assertNotEqual(faults(source), [], source)

    def test_names_of_methods_and_values_outside_the_rules_are_found(self):
        method = "class A:\n    def {}(self):\n        pass\n"
        value = "class B:\n    def __init__(self):\n        self.{} = 1\n"
        for sources in ([method.format("rows"), value.format("rows")], [method.format("sort")], [value.format("items")],
                        [value.format("args")], [method.format("a") + "\n    def a(self):\n        pass\n"],
                        ["class C:\n    def __init__(self):\n        return None\n"]):
            self.assertNotEqual(class_faults([ast.parse(source) for source in sources]), [], sources)
        good = [method.format("rows"), value.format("count"), method.format("append")]
        self.assertEqual(class_faults([ast.parse(source) for source in good]), [])


if __name__ == "__main__":
    unittest.main()
