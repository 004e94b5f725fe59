"""Those rules of the language (LANGUAGE.md) that can be seen in a file's text or tree, held against the package."""

import ast
import builtins
import pathlib
import re
import unittest

import tablestore

FOLDER = pathlib.Path(tablestore.__file__).parent

NODES = tuple([getattr(ast, name) for name in """
    Module ImportFrom alias FunctionDef arguments arg ClassDef Lambda Assign AugAssign If While For Return Break
    Continue Pass Raise Try ExceptHandler Expr Name Load Store Constant List Tuple Dict Set BinOp Add Sub Mult FloorDiv
    Mod Pow BitAnd BitOr BitXor LShift RShift Invert UnaryOp USub UAdd Not BoolOp And Or Compare Eq NotEq Lt LtE Gt GtE
    Is IsNot In NotIn IfExp Call keyword Attribute Subscript Slice ListComp comprehension JoinedStr FormattedValue
    """.split()])

OWN_NAMES = """
    len range enumerate zip min max sum abs sorted reversed int str bool list tuple dict set frozenset isinstance ord
    repr any all divmod Exception ValueError TypeError KeyError IndexError LookupError ZeroDivisionError ArithmeticError
    OverflowError RuntimeError NotImplementedError AttributeError StopIteration
    """.split()

METHODS = """
    append clear copy count endswith extend find get index insert isalnum isalpha isdigit islower isspace isupper items
    join keys ljust lower lstrip partition pop remove replace reverse rfind rjust rpartition rsplit rstrip setdefault
    split splitlines startswith strip update upper values zfill bit_length
    """.split()

WORDS = """
    type typing typing_extensions enum Enum IntEnum StrEnum Flag IntFlag Generic Protocol ABC ABCMeta namedtuple
    NamedTuple TypedDict TYPE_CHECKING abstractmethod
    """.split()

UNUSED = "register mro elements open input version_info with_traceback add_note format format_map".split()

NO_NAMES = """
    attrgetter breakpoint builtins compile copyright credits delattr dir eval exec exit gc getattr globals hasattr help
    id importlib license locals methodcaller os quit setattr super type vars sys chr
    """.split()

NO_VALUES = """
    items keys values pop update append clear extend insert remove reverse setdefault sort args encode format
    """.split()

KEYWORDS = [
    ("sorted", "key"), ("sorted", "reverse"), ("min", "key"), ("min", "default"), ("max", "key"), ("max", "default"),
    ("sum", "start"), ("enumerate", "start"), ("zip", "strict"),
]

WALKED = "zip enumerate reversed range".split()
WALKED_METHODS = "items keys values".split()
WALKERS = "list tuple dict sorted sum any all enumerate zip min max".split()
CHANGERS = "append clear extend insert pop remove reverse setdefault update add discard".split()

DUNDERS = ["__init__", "__eq__", "__repr__", "__str__", "__len__"]

PYTHONS_OWN = set()
for kind in (str, int, list, dict, set, tuple, bytes):
    PYTHONS_OWN.update(dir(kind))


def bound_names(tree):
    """All names that a file's tree binds, with the rows in which it does."""
    for node in ast.walk(tree):
        if isinstance(node, ast.Name) and isinstance(node.ctx, ast.Store):
            yield node.id, node.lineno
        elif isinstance(node, ast.arg):
            yield node.arg, node.lineno
        elif isinstance(node, ast.ExceptHandler) and node.name:
            yield node.name, node.lineno


def faults_in_text(text):
    for number, row in enumerate(text.split("\n"), start=1):
        if len(row) > 120:
            yield f"L10 row {number}"
        if not all(" " <= sign <= "~" for sign in row):
            yield f"L14 row {number}"
        if set(re.findall(r"\w+", row)) & set(WORDS) or re.search("dataclass|overload|contextmanager", row):
            yield f"L17 row {number}"
    if text.count("\n") > 400:
        yield "L10 too many rows"


def faults_in_node(node):
    if not isinstance(node, NODES):
        yield "L6 or L7"
    if isinstance(node, (ast.FunctionDef, ast.ClassDef)) and node.decorator_list:
        yield "L4 or L5: a decorator"
    if isinstance(node, ast.FunctionDef):
        if node.end_lineno - node.lineno >= 40:
            yield "L10"
        if node.args.vararg or node.args.kwarg or node.args.kwonlyargs or node.returns:
            yield "L4 or L21"
        if node.name.startswith("_") and node.name not in DUNDERS:
            yield "L12"
    if isinstance(node, ast.ClassDef) and not all(isinstance(row, (ast.FunctionDef, ast.Pass)) for row in node.body):
        yield "L5"
    if isinstance(node, (ast.For, ast.While)) and node.orelse or isinstance(node, ast.Try) and node.finalbody:
        yield "L6"
    if isinstance(node, ast.Assign) and len(node.targets) > 1:
        yield "L6"
    if isinstance(node, ast.Expr) and not isinstance(node.value, (ast.Call, ast.Constant)):
        yield "L6"
    if isinstance(node, ast.ListComp) and (len(node.generators) > 1 or len(node.generators[0].ifs) > 1):
        yield "L7"
    if isinstance(node, ast.Constant) and isinstance(node.value, (float, bytes, complex)):
        yield "L7"
    if isinstance(node, ast.Constant) and isinstance(node.value, str) and "%" in node.value:
        yield "L27"
    if isinstance(node, ast.FormattedValue) and (not isinstance(node.value, ast.Name) or node.format_spec):
        yield "L7"
    if isinstance(node, ast.ExceptHandler) and (
            node.type is None or ast.unparse(node.type) in ("Exception", "TypeError")):
        yield "L19"
    if isinstance(node, ast.Compare) and any(isinstance(sign, (ast.Is, ast.IsNot)) for sign in node.ops):
        sides = [node.left] + node.comparators
        if not any(isinstance(side, ast.Constant) and side.value in (None, True, False) for side in sides):
            yield "L20"


def faults_in_names(tree):
    own = {name for node in ast.walk(tree) if isinstance(node, (ast.FunctionDef, ast.ClassDef)) for name in [node.name]}
    for node in ast.walk(tree):
        if isinstance(node, ast.Name) and isinstance(node.ctx, ast.Load):
            if hasattr(builtins, node.id) and node.id not in OWN_NAMES and node.id not in own:
                yield f"L8 row {node.lineno}"
        if isinstance(node, ast.Name) and node.id in UNUSED:
            yield f"L17 row {node.lineno}"
        if isinstance(node, ast.Attribute):
            if node.attr in UNUSED or node.attr.startswith("_") and node.attr not in DUNDERS:
                yield f"L17 or L12 row {node.lineno}"
            if node.attr in PYTHONS_OWN and node.attr not in METHODS + DUNDERS + ["add", "discard", "title"]:
                yield f"L25 row {node.lineno}"
    for name, row in bound_names(tree):
        if hasattr(builtins, name) or name.startswith("_"):
            yield f"L12 or L15 row {row}"


def names_at_the_top(tree):
    names = []
    for node in tree.body:
        if isinstance(node, (ast.FunctionDef, ast.ClassDef)):
            names.append(node.name)
        elif isinstance(node, ast.ImportFrom):
            names.extend([alias.asname or alias.name for alias in node.names])
        elif isinstance(node, ast.Assign):
            names.extend([ast.unparse(target) for target in node.targets])
    return names


def faults_at_the_top(tree):
    for place, node in enumerate(tree.body):
        if isinstance(node, ast.Expr) and not (place == 0 and isinstance(node.value, ast.Constant)):
            yield f"L3 row {node.lineno}"
        elif not isinstance(node, (ast.Expr, ast.ImportFrom, ast.FunctionDef, ast.ClassDef, ast.Assign)):
            yield f"L3 row {node.lineno}"
        if isinstance(node, ast.Assign) and not is_plain(node.value, 0):
            yield f"L3 or L15 row {node.lineno}"
    names = names_at_the_top(tree)
    if len(set(names)) < len(names):
        yield "L15 a name bound twice"


def is_plain(node, depth):
    """Whether a value at a file's top is written out, with no list or dict within another one."""
    if isinstance(node, (ast.Constant, ast.Name)):
        return True
    if isinstance(node, ast.Tuple):
        return all(is_plain(thing, depth + 1) for thing in node.elts)
    if isinstance(node, ast.List):
        return depth == 0 and all(is_plain(thing, depth + 1) for thing in node.elts)
    if isinstance(node, ast.Dict):
        return depth == 0 and all(is_plain(thing, depth + 1) for thing in node.keys + node.values)
    return False


def called(node):
    """The name or method that a call calls."""
    if isinstance(node, ast.Call):
        return node.func.attr if isinstance(node.func, ast.Attribute) else getattr(node.func, "id", "")
    return ""


def is_walked(node):
    by_method = isinstance(node, ast.Call) and isinstance(node.func, ast.Attribute)
    return called(node) in (WALKED_METHODS if by_method else WALKED)


def walks(parent, node):
    """Whether what stands around a walk walks it on the spot."""
    if isinstance(parent, (ast.For, ast.comprehension)):
        return parent.iter is node
    if called(parent) == "join":
        return isinstance(parent.func.value, ast.Constant)
    if called(parent) in ("min", "max"):
        return parent.args == [node]
    return called(parent) in WALKERS and (parent.args[0] is node or called(parent) == "zip")


def takes_set(parent):
    if isinstance(parent, ast.Compare):
        return all(isinstance(sign, (ast.In, ast.NotIn, ast.Eq, ast.NotEq)) for sign in parent.ops)
    return called(parent) in ("sorted", "len") and not parent.keywords or isinstance(parent, ast.BinOp)


def faults_in_walks(tree):
    for parent in ast.walk(tree):
        for node in ast.iter_child_nodes(parent):
            if is_walked(node) and not walks(parent, node):
                yield f"L23 row {node.lineno}"
            if (called(node) in ("set", "frozenset") or isinstance(node, ast.Set)) and not takes_set(parent):
                yield f"L24 row {node.lineno}"
            if isinstance(node, ast.keyword) and (called(parent), node.arg) not in KEYWORDS:
                yield f"L22 row {node.lineno}"
        if isinstance(parent, ast.For):
            walked = {ast.unparse(node) for node in ast.walk(parent.iter) if isinstance(node,
                                                                                        (ast.Name, ast.Attribute))}
            for node in ast.walk(parent):
                changes = isinstance(node, ast.Subscript) and isinstance(node.ctx, ast.Store)
                if changes and ast.unparse(node.value) in walked:
                    yield f"L23 row {node.lineno}"
                if called(node) in CHANGERS and isinstance(node.func, ast.Attribute):
                    if ast.unparse(node.func.value) in walked:
                        yield f"L23 row {node.lineno}"


def faults_in_errors(tree):
    for node in ast.walk(tree):
        if isinstance(node, ast.Raise):
            if not isinstance(node.exc, ast.Call):
                yield f"L19 row {node.lineno}"
        if isinstance(node, ast.ExceptHandler) and node.type is not None:
            for name in ast.walk(node.type):
                if getattr(name, "id", "") in ("ValueError", "LookupError", "IndexError"):
                    yield f"L19, or look at it: row {node.lineno}"


def faults_in_locals(tree):
    """L15: nothing within a def is called like what the file's top binds, nor like what isn't to be used."""
    top = names_at_the_top(tree)
    for node in tree.body:
        if isinstance(node, (ast.FunctionDef, ast.ClassDef)):
            for name, row in bound_names(node):
                if name in top or name in NO_NAMES:
                    yield f"L15 row {row}"
    for node in ast.walk(tree):
        if isinstance(node, ast.Name) and node.id in NO_NAMES:
            yield f"L17 or L27 row {node.lineno}"


def faults_in(text):
    tree = ast.parse(text)
    nodes = [f"{rule} row {getattr(node, 'lineno', 0)}" for node in ast.walk(tree) for rule in faults_in_node(node)]
    found = list(faults_in_text(text)) + nodes + list(faults_in_names(tree)) + list(faults_at_the_top(tree))
    return found + list(faults_in_walks(tree)) + list(faults_in_errors(tree)) + list(faults_in_locals(tree))


def methods_and_values(texts):
    """The names of all methods of the classes, and of all values of objects, over several files."""
    methods = set()
    values = set()
    for text in texts:
        for node in ast.walk(ast.parse(text)):
            if isinstance(node, ast.ClassDef):
                methods.update([row.name for row in node.body if isinstance(row, ast.FunctionDef)])
            if isinstance(node, ast.Attribute) and isinstance(node.ctx, ast.Store):
                values.add(node.attr)
    return methods, values


class Language(unittest.TestCase):
    def test_the_packages_files_keep_to_the_rules(self):
        for path in sorted(FOLDER.glob("*.py")):
            self.assertEqual(faults_in(path.read_bytes().decode("utf-8")), [], path)

    def test_no_name_is_a_method_and_a_value(self):
        methods, values = methods_and_values([path.read_text() for path in FOLDER.glob("*.py")])
        self.assertEqual(methods & values, set())
        self.assertEqual(values & set(NO_VALUES), set())
        self.assertEqual(methods & PYTHONS_OWN - set(METHODS + DUNDERS + ["add", "discard"]), set())

    def test_nothing_else_lies_in_the_package(self):
        for path in FOLDER.iterdir():
            # Python itself may have left this one, when a test was run by hand; it is not committed.
            if path.name != "__pycache__":
                self.assertRegex(path.name, r"\A(__init__|[a-z][a-z0-9_]*)\.py\Z")

    def test_what_is_outside_the_rules_is_seen(self):
        for text in (
            "import os\n", "from os import *\nx = 1 / 2\n", "x = 0.5\n", "def f(*a):\n    pass\n", "x = open\n",
            "def f():\n    yield 1\n", "x = {a for a in ()}\n", "x = 'a' % 1 % '%'\n", "def f(len):\n    pass\n",
            "x = 1\nx = 2\n", "# a type\n", "class A:\n    x = 1\n", "def f(x):\n    return x.casefold()\n",
            "def f(x):\n    with x:\n        pass\n", "x = y = 1\n", "x = '\u00e4'\n", "def f(x):\n\treturn x\n",
            "def f(x):\n    return x is x\n", "f()\n", "def f(x):\n" + "    x = 1\n" * 40,
            "x = 1 + 1\n", "x = [[]]\n", "def f(x):\n    return range(x)\n", "def f(x):\n    y = x.items()\n",
            "def f(x):\n    y = set(x)\n", "def f(x):\n    return {1, x}\n",
            "def f(x):\n    return max(x, key=f, y=1)\n",
            "def f(x):\n    for y in x:\n        x.append(y)\n", "def f(x):\n    for y in x:\n        x[y] = 1\n",
            "def f(x):\n    raise x\n", "def f(x):\n    try:\n        f(x)\n    except ValueError:\n        pass\n",
            "def f(f):\n    pass\n", "from a import b\n\n\ndef f(b):\n    pass\n", "def f(os):\n    pass\n",
        ):
            self.assertNotEqual(faults_in(text), [], text)


if __name__ == "__main__":
    unittest.main()
