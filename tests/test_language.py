"""The package keeps to the part of Python that is written down for it, as far as a test can see that."""

import ast
import builtins
import re
import unittest
from pathlib import Path

PACKAGE = "steermill"
FOLDER = Path(__file__).resolve().parent.parent / PACKAGE

ERROR_NAMES = """Exception ValueError TypeError KeyError IndexError LookupError ZeroDivisionError ArithmeticError
    OverflowError RuntimeError NotImplementedError AttributeError StopIteration""".split()
OWN_NAMES = """len range enumerate zip min max sum abs sorted reversed int str bool list tuple dict set isinstance ord
    repr any all divmod True False None""".split() + ERROR_NAMES
METHODS = """append clear copy count endswith extend find get index insert isalnum isalpha isdigit islower isspace
    isupper items join keys ljust lower lstrip partition pop remove replace reverse rfind rjust rpartition rsplit rstrip
    setdefault split splitlines startswith strip update upper values zfill bit_length""".split()
DUNDERS = "__init__ __eq__ __repr__ __str__ __len__ __all__ __version__".split()
NOT_USED = """register mro elements open input version_info with_traceback add_note attrgetter breakpoint builtins
    compile copyright credits delattr dir eval exec exit gc getattr globals hasattr help id importlib license locals
    methodcaller os quit setattr super type vars sys format format_map""".split()
WORDS = re.compile(r"\b(type|typing|typing_extensions|enum|Enum|IntEnum|StrEnum|Flag|IntFlag|Generic|Protocol|ABC|ABCMeta"
                   r"|namedtuple|NamedTuple|TypedDict|TYPE_CHECKING|abstractmethod)\b|dataclass|overload|contextmanager")
FILE_NAMES = re.compile(r"(?!test|site|conftest|usercustomize)[a-z][a-z0-9_]*\.py|__init__\.py|__main__\.py")
NODES = """Module Expr FunctionDef arguments arg ClassDef Return Assign AugAssign For While If Raise Try ExceptHandler
    ImportFrom alias Pass Break Continue BoolOp And Or BinOp Add Sub Mult FloorDiv Mod Pow LShift RShift BitOr BitXor
    BitAnd UnaryOp Invert Not USub UAdd Lambda IfExp Dict Set ListComp comprehension Compare Eq NotEq Lt LtE Gt GtE Is
    IsNot In NotIn Call keyword FormattedValue JoinedStr Constant Attribute Subscript Name List Tuple Slice Load
    Store""".split()


def size_faults(name, text):
    faults = []
    lines = text.split("\n")
    if len(lines) > 401:
        faults.append("L10 a file of more than 400 lines")
    for place, line in enumerate(lines, start=1):
        if len(line) > 120:
            faults.append(f"L10 line {place} is too long")
        if any(not " " <= sign <= "~" for sign in line):
            faults.append(f"L14 line {place} has a sign that is not allowed")
        if WORDS.search(line):
            faults.append(f"L17 line {place} has a word that is not allowed")
    if not FILE_NAMES.fullmatch(name):
        faults.append(f"L14 the file name {name}")
    return faults


def import_faults(tree, defined):
    faults = []
    for node in ast.walk(tree):
        if not isinstance(node, ast.ImportFrom):
            continue
        if node not in tree.body or node.level or not (node.module or "").startswith(PACKAGE + "."):
            faults.append(f"L2 line {node.lineno}: not a plain import of the package's own")
        for name in node.names:
            if name.asname or name.name not in defined.get(node.module, ()):
                faults.append(f"L16 line {node.lineno}: {name.name} is not defined in {node.module}")
    return faults


def name_faults(tree):
    """Names of Python's own that are not listed, or given another meaning, and other names that are not used."""
    faults = []
    taken = [name.name for node in tree.body if isinstance(node, ast.ImportFrom) for name in node.names]
    taken += [node.name for node in tree.body if isinstance(node, ast.ClassDef)]
    for node in ast.walk(tree):
        if isinstance(node, ast.Name) and isinstance(node.ctx, ast.Load):
            if hasattr(builtins, node.id) and node.id not in OWN_NAMES:
                faults.append(f"L8 line {node.lineno}: {node.id}")
        bound = None
        if isinstance(node, ast.Name) and isinstance(node.ctx, ast.Store):
            bound = node.id
        if isinstance(node, ast.arg):
            bound = node.arg
        if bound is not None and (hasattr(builtins, bound) or bound in taken):
            faults.append(f"L15 line {node.lineno}: {bound} has another meaning")
        for name in (getattr(node, "id", None), getattr(node, "arg", None), getattr(node, "attr", None),
                     getattr(node, "name", None)):
            if name in NOT_USED or (isinstance(name, str) and name.startswith("_") and name not in DUNDERS):
                faults.append(f"L12 or L17 line {getattr(node, 'lineno', 0)}: {name}")
    return faults


def function_faults(node):
    faults = []
    if node.end_lineno - node.lineno + 1 > 40:
        faults.append(f"L10 line {node.lineno}: more than 40 lines")
    if node.decorator_list or node.args.vararg or node.args.kwarg or node.args.kwonlyargs or node.args.posonlyargs:
        faults.append(f"L4 line {node.lineno}: not a plain function")
    return faults


def class_faults(node):
    faults = []
    if node.decorator_list or node.keywords or len(node.bases) > 1:
        faults.append(f"L5 line {node.lineno}: not a plain class")
    for part in node.body:
        docstring = isinstance(part, ast.Expr) and isinstance(part.value, ast.Constant)
        if not docstring and not isinstance(part, (ast.FunctionDef, ast.Pass)):
            faults.append(f"L5 line {part.lineno}: a value in the class body")
    return faults


def node_faults(node, methods):
    """What a single node of a file's tree shows."""
    place = f"line {getattr(node, 'lineno', 0)}"
    faults = []
    if type(node).__name__ not in NODES:
        faults.append(f"L6 or L7 {place}: {type(node).__name__}")
    if isinstance(node, ast.Assign) and len(node.targets) > 1:
        faults.append(f"L6 {place}: more than one target")
    if isinstance(node, (ast.For, ast.While)) and node.orelse or isinstance(node, ast.Try) and node.finalbody:
        faults.append(f"L6 {place}: a branch that is not allowed")
    if isinstance(node, ast.ListComp) and (len(node.generators) > 1 or len(node.generators[0].ifs) > 1):
        faults.append(f"L7 {place}: more than one for or if")
    if isinstance(node, ast.Constant):
        if isinstance(node.value, (float, complex, bytes)) or isinstance(node.value, str) and "%" in node.value:
            faults.append(f"L7 or L27 {place}: {node.value!r}")
    if isinstance(node, ast.BinOp) and isinstance(node.op, ast.Pow) and not isinstance(node.right, ast.Constant):
        faults.append(f"L27 {place}: an exponent that is not written out")
    if isinstance(node, ast.Call) and isinstance(node.func, ast.Attribute) and node.func.attr not in methods:
        faults.append(f"L25 {place}: {node.func.attr}")
    if isinstance(node, ast.Compare) and any(isinstance(op, (ast.Is, ast.IsNot)) for op in node.ops):
        sides = [node.left] + node.comparators
        # Not asked with `in`: the whole number 1 is equal to True.
        if not any(isinstance(side, ast.Constant) and repr(side.value) in ("None", "True", "False") for side in sides):
            faults.append(f"L20 {place}: is")
    if isinstance(node, ast.ExceptHandler):
        if node.type is None or getattr(node.type, "id", None) in ("Exception", "TypeError"):
            faults.append(f"L19 {place}: an error that is not taken")
    return faults


def top_faults(tree):
    faults = []
    names = []
    for node in tree.body:
        docstring = isinstance(node, ast.Expr) and isinstance(node.value, ast.Constant)
        if not docstring and not isinstance(node, (ast.ImportFrom, ast.FunctionDef, ast.ClassDef, ast.Assign)):
            faults.append(f"L3 line {node.lineno}: something done at the top")
        names += bound_at_top(node)
    return faults + [f"L15 {name} is bound twice" for name in set(names) if names.count(name) > 1]


def bound_at_top(node):
    if isinstance(node, (ast.FunctionDef, ast.ClassDef)):
        return [node.name]
    if isinstance(node, ast.Assign):
        return [target.id for target in node.targets]
    if isinstance(node, ast.ImportFrom):
        return [name.name for name in node.names]
    return []


def faults_of(name, text, defined, own_methods=()):
    """All that a file of the package does outside its part of the language."""
    tree = ast.parse(text)
    methods = METHODS + list(own_methods)
    faults = size_faults(name, text) + import_faults(tree, defined) + name_faults(tree) + top_faults(tree)
    for node in ast.walk(tree):
        faults += node_faults(node, methods)
        if isinstance(node, ast.FunctionDef):
            faults += function_faults(node)
        if isinstance(node, ast.ClassDef):
            faults += class_faults(node)
    return faults


def read_package():
    return {path.name: path.read_text(encoding="utf-8") for path in sorted(FOLDER.glob("*.py"))}


def module_of(name):
    return f"{PACKAGE}.{name[:-3]}"


def defined_in(texts):
    """For each module the names that it defines itself."""
    return {module_of(name): [bound for node in ast.parse(text).body if not isinstance(node, ast.ImportFrom)
                              for bound in bound_at_top(node)] for name, text in texts.items()}


class Package(unittest.TestCase):
    def test_nothing_but_files_of_python_lies_in_it(self):
        for path in FOLDER.iterdir():
            self.assertTrue(path.name == "__pycache__" or path.is_file() and path.suffix == ".py", path)
        self.assertTrue((FOLDER / "__init__.py").is_file())

    def test_each_file_keeps_to_the_language(self):
        texts = read_package()
        own = [part.name for text in texts.values() for node in ast.walk(ast.parse(text))
               if isinstance(node, ast.ClassDef) for part in node.body if isinstance(part, ast.FunctionDef)]
        for name, text in texts.items():
            self.assertEqual(faults_of(name, text, defined_in(texts), own), [], name)

    def test_no_two_files_draw_from_one_another(self):
        drawn = {module_of(name): {node.module for node in ast.parse(text).body if isinstance(node, ast.ImportFrom)}
                 for name, text in read_package().items()}
        left = dict(drawn)
        while left:
            free = [name for name in left if not left[name] & set(left)]
            self.assertTrue(free, f"a ring among {sorted(left)}")
            left = {name: left[name] for name in left if name not in free}


class Faults(unittest.TestCase):
    """The test above is worth something only if it sees faults."""

    def test_faults_are_seen(self):
        for text in ("import math\n", "from math import gcd\n", "from steermill.numbers import gone\n",
                     "def f(x):\n    return x / 2\n", "def f(x):\n    return pow(x, 2)\n",
                     "def f(*x):\n    return 1\n", "def f(x):\n    a = b = x\n    return a\n",
                     "def f(x):\n    return {k for k in x}\n", "def f(x):\n    return 2 ** x\n",
                     "def f(x):\n    x.sort()\n", "def f(sum):\n    return sum\n", "def f(x):\n    _y = x\n    return 1\n",
                     "print(1)\n", "a = 1\na = 2\n", "class A:\n    b = 1\n", "# any type\n", "a = 'caf\u00e9'\n",
                     "def f(x):\n    assert x\n", "def f(x):\n    return x is 1\n", "a = 'x%'\n", "a = 1.5\n",
                     "def f():\n" + "    pass\n" * 40, "a = 1  #" + " " * 120 + "\n",
                     "from steermill.numbers import plus\n\n\ndef f(plus):\n    return plus\n"):
            self.assertNotEqual(faults_of("some.py", text, {"steermill.numbers": ["plus"]}), [], text)

    def test_plain_code_has_none(self):
        text = '"""Told."""\n\nfrom steermill.numbers import plus\n\n\ndef f(xs):\n    return [plus(0, x, x) for x in xs]\n'
        self.assertEqual(faults_of("some.py", text, {"steermill.numbers": ["plus"]}), [])


if __name__ == "__main__":
    unittest.main()
