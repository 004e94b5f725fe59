"""Those rules of the language (LANGUAGE.md) that can be seen in a file's text or tree, held against the package."""

import ast
import builtins
import pathlib
import re
import unittest

import tablestore

FOLDER = pathlib.Path(tablestore.__file__).parent

NODES = tuple([getattr(ast, name) for name in """
    Module ImportFrom alias FunctionDef arguments arg ClassDef Lambda Assign AugAssign If While For Return Break
    Continue Pass Raise Try ExceptHandler Expr Name Load Store Constant List Tuple Dict Set BinOp Add Sub Mult FloorDiv
    Mod Pow BitAnd BitOr BitXor LShift RShift Invert UnaryOp USub UAdd Not BoolOp And Or Compare Eq NotEq Lt LtE Gt GtE
    Is IsNot In NotIn IfExp Call keyword Attribute Subscript Slice ListComp comprehension JoinedStr FormattedValue
    """.split()])

OWN_NAMES = """
    len range enumerate zip min max sum abs sorted reversed int str bool list tuple dict set frozenset isinstance ord
    repr any all divmod Exception ValueError TypeError KeyError IndexError LookupError ZeroDivisionError ArithmeticError
    OverflowError RuntimeError NotImplementedError AttributeError StopIteration
    """.split()

METHODS = """
    append clear copy count endswith extend find get index insert isalnum isalpha isdigit islower isspace isupper items
    join keys ljust lower lstrip partition pop remove replace reverse rfind rjust rpartition rsplit rstrip setdefault
    split splitlines startswith strip update upper values zfill bit_length
    """.split()

WORDS = """
    type typing typing_extensions enum Enum IntEnum StrEnum Flag IntFlag Generic Protocol ABC ABCMeta namedtuple
    NamedTuple TypedDict TYPE_CHECKING abstractmethod
    """.split()

UNUSED = "register mro elements open input version_info with_traceback add_note format format_map".split()

DUNDERS = ["__init__", "__eq__", "__repr__", "__str__", "__len__"]

PYTHONS_OWN = set()
for kind in (str, int, list, dict, set, tuple, bytes):
    PYTHONS_OWN.update(dir(kind))


def bound_names(tree):
    """All names that a file's tree binds, with the rows in which it does."""
    for node in ast.walk(tree):
        if isinstance(node, ast.Name) and isinstance(node.ctx, ast.Store):
            yield node.id, node.lineno
        elif isinstance(node, ast.arg):
            yield node.arg, node.lineno
        elif isinstance(node, ast.ExceptHandler) and node.name:
            yield node.name, node.lineno


def faults_in_text(text):
    for number, row in enumerate(text.split("\n"), start=1):
        if len(row) > 120:
            yield f"L10 row {number}"
        if not all(" " <= sign <= "~" for sign in row):
            yield f"L14 row {number}"
        if set(re.findall(r"\w+", row)) & set(WORDS) or re.search("dataclass|overload|contextmanager", row):
            yield f"L17 row {number}"
    if text.count("\n") > 400:
        yield "L10 too many rows"


def faults_in_node(node):
    if not isinstance(node, NODES):
        yield "L6 or L7"
    if isinstance(node, (ast.FunctionDef, ast.ClassDef)) and node.decorator_list:
        yield "L4 or L5: a decorator"
    if isinstance(node, ast.FunctionDef):
        if node.end_lineno - node.lineno >= 40:
            yield "L10"
        if node.args.vararg or node.args.kwarg or node.args.kwonlyargs or node.returns:
            yield "L4 or L21"
        if node.name.startswith("_") and node.name not in DUNDERS:
            yield "L12"
    if isinstance(node, ast.ClassDef) and not all(isinstance(row, (ast.FunctionDef, ast.Pass)) for row in node.body):
        yield "L5"
    if isinstance(node, (ast.For, ast.While)) and node.orelse or isinstance(node, ast.Try) and node.finalbody:
        yield "L6"
    if isinstance(node, ast.Assign) and len(node.targets) > 1:
        yield "L6"
    if isinstance(node, ast.Expr) and not isinstance(node.value, (ast.Call, ast.Constant)):
        yield "L6"
    if isinstance(node, ast.ListComp) and (len(node.generators) > 1 or len(node.generators[0].ifs) > 1):
        yield "L7"
    if isinstance(node, ast.Constant) and isinstance(node.value, (float, bytes, complex)):
        yield "L7"
    if isinstance(node, ast.Constant) and isinstance(node.value, str) and "%" in node.value:
        yield "L27"
    if isinstance(node, ast.FormattedValue) and (not isinstance(node.value, ast.Name) or node.format_spec):
        yield "L7"
    if isinstance(node, ast.ExceptHandler) and (
            node.type is None or ast.unparse(node.type) in ("Exception", "TypeError")):
        yield "L19"
    if isinstance(node, ast.Compare) and any(isinstance(sign, (ast.Is, ast.IsNot)) for sign in node.ops):
        sides = [node.left] + node.comparators
        if not any(isinstance(side, ast.Constant) and side.value in (None, True, False) for side in sides):
            yield "L20"


def faults_in_names(tree):
    own = {name for node in ast.walk(tree) if isinstance(node, (ast.FunctionDef, ast.ClassDef)) for name in [node.name]}
    for node in ast.walk(tree):
        if isinstance(node, ast.Name) and isinstance(node.ctx, ast.Load):
            if hasattr(builtins, node.id) and node.id not in OWN_NAMES and node.id not in own:
                yield f"L8 row {node.lineno}"
        if isinstance(node, ast.Name) and node.id in UNUSED:
            yield f"L17 row {node.lineno}"
        if isinstance(node, ast.Attribute):
            if node.attr in UNUSED or node.attr.startswith("_") and node.attr not in DUNDERS:
                yield f"L17 or L12 row {node.lineno}"
            if node.attr in PYTHONS_OWN and node.attr not in METHODS + DUNDERS + ["add", "discard", "title"]:
                yield f"L25 row {node.lineno}"
    for name, row in bound_names(tree):
        if hasattr(builtins, name) or name.startswith("_"):
            yield f"L12 or L15 row {row}"


def faults_at_the_top(tree):
    names = []
    for place, node in enumerate(tree.body):
        if isinstance(node, ast.Expr) and not (place == 0 and isinstance(node.value, ast.Constant)):
            yield f"L3 row {node.lineno}"
        elif not isinstance(node, (ast.Expr, ast.ImportFrom, ast.FunctionDef, ast.ClassDef, ast.Assign)):
            yield f"L3 row {node.lineno}"
        if isinstance(node, (ast.FunctionDef, ast.ClassDef)):
            names.append(node.name)
        elif isinstance(node, ast.ImportFrom):
            names.extend([alias.asname or alias.name for alias in node.names])
        elif isinstance(node, ast.Assign):
            names.extend([ast.unparse(target) for target in node.targets])
    if len(set(names)) < len(names):
        yield "L15 a name bound twice"


def faults_in(text):
    tree = ast.parse(text)
    nodes = [f"{rule} row {getattr(node, 'lineno', 0)}" for node in ast.walk(tree) for rule in faults_in_node(node)]
    return list(faults_in_text(text)) + nodes + list(faults_in_names(tree)) + list(faults_at_the_top(tree))


class Language(unittest.TestCase):
    def test_the_packages_files_keep_to_the_rules(self):
        for path in sorted(FOLDER.glob("*.py")):
            self.assertEqual(faults_in(path.read_bytes().decode("utf-8")), [], path)

    def test_nothing_else_lies_in_the_package(self):
        for path in FOLDER.iterdir():
            # Python itself may have left this one, when a test was run by hand; it is not committed.
            if path.name != "__pycache__":
                self.assertRegex(path.name, r"\A(__init__|[a-z][a-z0-9_]*)\.py\Z")

    def test_what_is_outside_the_rules_is_seen(self):
        for text in (
            "import os\n", "from os import *\nx = 1 / 2\n", "x = 0.5\n", "def f(*a):\n    pass\n", "x = open\n",
            "def f():\n    yield 1\n", "x = {a for a in ()}\n", "x = 'a' % 1 % '%'\n", "def f(len):\n    pass\n",
            "x = 1\nx = 2\n", "# a type\n", "class A:\n    x = 1\n", "def f(x):\n    return x.casefold()\n",
            "def f(x):\n    with x:\n        pass\n", "x = y = 1\n", "x = '\u00e4'\n", "def f(x):\n\treturn x\n",
            "def f(x):\n    return x is x\n", "f()\n", "def f(x):\n" + "    x = 1\n" * 40,
        ):
            self.assertNotEqual(faults_in(text), [], text)


if __name__ == "__main__":
    unittest.main()
