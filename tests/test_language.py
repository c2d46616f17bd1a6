"""That the package keeps to LANGUAGE.md, as far as a walk over its syntax trees can see."""

import ast
import builtins
import pathlib
import re
import unittest

ROOT = pathlib.Path(__file__).resolve().parent.parent
PACKAGE = ROOT / "deltahouse"

OWN_NAMES = set("""
    len range enumerate zip min max sum abs sorted reversed int str bool list tuple dict set frozenset isinstance ord
    repr any all divmod Exception ValueError TypeError KeyError IndexError LookupError ZeroDivisionError
    ArithmeticError OverflowError RuntimeError NotImplementedError AttributeError StopIteration
""".split())

METHODS = set("""
    append clear copy count endswith extend find get index insert isalnum isalpha isdigit islower isspace isupper items
    join keys ljust lower lstrip partition pop remove replace reverse rfind rjust rpartition rsplit rstrip setdefault
    split splitlines startswith strip update upper values zfill bit_length
""".split())

STATEMENTS = (
    ast.Assign, ast.AugAssign, ast.If, ast.While, ast.For, ast.Return, ast.Break, ast.Continue, ast.Pass, ast.Raise,
    ast.Try, ast.Expr, ast.FunctionDef, ast.ClassDef, ast.ImportFrom,
)

EXPRESSIONS = (
    ast.Constant, ast.List, ast.Tuple, ast.Dict, ast.Set, ast.BinOp, ast.UnaryOp, ast.Compare, ast.BoolOp, ast.IfExp,
    ast.Call, ast.Attribute, ast.Subscript, ast.Slice, ast.ListComp, ast.JoinedStr, ast.FormattedValue, ast.Name,
    ast.Lambda,
)

DUNDERS = {"__init__", "__eq__", "__repr__", "__str__", "__len__"}

BANNED_WORDS = re.compile(
    r"\b(type|typing|typing_extensions|enum|Enum|IntEnum|StrEnum|Flag|IntFlag|Generic|Protocol|ABC|ABCMeta|namedtuple"
    r"|NamedTuple|TypedDict|TYPE_CHECKING|abstractmethod)\b|dataclass|overload|contextmanager"
)

BANNED_NAMES = set("""
    register mro elements open input version_info with_traceback add_note attrgetter breakpoint builtins compile
    copyright credits delattr dir eval exec exit gc getattr globals hasattr help id importlib license locals
    methodcaller os quit setattr super type vars sys chr format format_map __name__
""".split())

VALUES_NOT_USED = set("""
    items keys values pop update append clear extend insert remove reverse setdefault sort args encode format
""".split())


def text_faults(text):
    if not all(sign == "\n" or " " <= sign <= "~" for sign in text):
        yield "L14 a sign outside the blank to ~"
    rows = text.split("\n")
    if len(rows) > 401:
        yield "L10 a file of more than 400 lines"
    for number, row in enumerate(rows, 1):
        if len(row) > 120:
            yield f"L10 line {number} is too long"
        if BANNED_WORDS.search(row):
            yield f"L17 line {number} has a word that is not used"


def bound_names(tree):
    for node in ast.walk(tree):
        if isinstance(node, ast.Name) and isinstance(node.ctx, ast.Store):
            yield node.lineno, node.id
        elif isinstance(node, (ast.FunctionDef, ast.ClassDef)):
            yield node.lineno, node.name
        elif isinstance(node, ast.arg):
            yield node.lineno, node.arg
        elif isinstance(node, ast.ExceptHandler) and node.name:
            yield node.lineno, node.name
        elif isinstance(node, ast.alias):
            yield node.lineno, node.asname or node.name


def method_names(tree):
    classes = [node for node in tree.body if isinstance(node, ast.ClassDef)]
    return {part.name for node in classes for part in node.body if isinstance(part, ast.FunctionDef)}


def name_faults(tree):
    methods = method_names(tree)
    known = {name for line, name in bound_names(tree)} | OWN_NAMES
    for line, name in bound_names(tree):
        if not re.fullmatch(r"[A-Za-z][A-Za-z0-9_]*", name) and name not in DUNDERS:
            yield f"L12 line {line}: {name}"
        if (name in dir(builtins) and name not in methods) or name in BANNED_NAMES:
            yield f"L15/L17 line {line}: {name}"
    for node in ast.walk(tree):
        if isinstance(node, ast.Name) and (node.id in BANNED_NAMES or node.id not in known):
            yield f"L8 line {node.lineno}: {node.id}"
        if isinstance(node, ast.Attribute) and (node.attr in BANNED_NAMES or node.attr.startswith("_")):
            if node.attr != "__init__":
                yield f"L8/L17 line {node.lineno}: {node.attr}"


def method_call_faults(tree, package_names):
    for node in ast.walk(tree):
        if isinstance(node, ast.Call) and isinstance(node.func, ast.Attribute):
            if node.func.attr not in METHODS | package_names | {"__init__"}:
                yield f"L25 line {node.lineno}: {node.func.attr}"


def value_names(tree):
    """The names under which objects of the package keep values."""
    return {
        node.attr for node in ast.walk(tree) if isinstance(node, ast.Attribute) and isinstance(node.ctx, ast.Store)
    }


def value_faults(tree, package_names):
    for name in sorted(value_names(tree) & (package_names | method_names(tree))):
        yield f"L18 {name} is a method and a value"
    for name in sorted(value_names(tree) & VALUES_NOT_USED):
        yield f"L26 {name} is no name for a value"


def is_set(node):
    if isinstance(node, ast.BinOp):
        return is_set(node.left) and is_set(node.right)
    return isinstance(node, ast.Call) and getattr(node.func, "id", None) in ("set", "frozenset")


def set_faults(tree):
    """Sets that are kept, walked, handed on or given back; what stands by `in`, `sorted` or `len` is let be."""
    for node in ast.walk(tree):
        parts = []
        if isinstance(node, (ast.Assign, ast.AugAssign, ast.Return)):
            parts = [node.value]
        elif isinstance(node, (ast.For, ast.comprehension)):
            parts = [node.iter]
        elif isinstance(node, ast.Attribute):
            parts = [node.value]
        elif isinstance(node, ast.Call) and getattr(node.func, "id", None) not in ("sorted", "len"):
            parts = node.args
        for part in parts:
            if part is not None and is_set(part):
                yield f"L24 line {part.lineno}: a set is kept or walked"


def top_faults(tree):
    for number, node in enumerate(tree.body):
        docstring = number == 0 and isinstance(node, ast.Expr) and isinstance(node.value, ast.Constant)
        if docstring or isinstance(node, (ast.FunctionDef, ast.ClassDef)):
            continue
        if isinstance(node, ast.ImportFrom):
            if node.level or not node.module.startswith("deltahouse.") or node.names[0].name == "*":
                yield f"L2/L16 line {node.lineno}"
        elif not isinstance(node, ast.Assign) or any(isinstance(part, ast.Call) for part in ast.walk(node)):
            yield f"L3 line {node.lineno}"
    names = [name for node in tree.body for line, name in bound_names(ast.Module([node], [])) if at_top(node, name)]
    if len(names) != len(set(names)):
        yield "L15 a name is bound twice at the top"


def at_top(node, name):
    if isinstance(node, (ast.FunctionDef, ast.ClassDef)):
        return node.name == name
    return True


def imported_names(tree):
    return {alias.name for node in tree.body if isinstance(node, ast.ImportFrom) for alias in node.names}


def local_faults(tree):
    """Parameters and locals that are called like a class or an import of their file."""
    taken = imported_names(tree) | {node.name for node in tree.body if isinstance(node, ast.ClassDef)}
    functions = [node for node in ast.walk(tree) if isinstance(node, (ast.FunctionDef, ast.Lambda))]
    for node in functions:
        for part in ast.walk(node):
            stored = isinstance(part, ast.Name) and isinstance(part.ctx, ast.Store)
            name = part.arg if isinstance(part, ast.arg) else part.id if stored else None
            if name in taken:
                yield f"L15 line {part.lineno}: {name} is a class or an import too"


def function_faults(node):
    taken = node.args
    if taken.vararg or taken.kwarg or taken.kwonlyargs or taken.posonlyargs or node.decorator_list:
        yield f"L4 line {node.lineno}"
    if node.end_lineno - node.lineno + 1 > 40:
        yield f"L10 line {node.lineno}: a function of more than 40 lines"
    if node.name.startswith("__") and node.name not in DUNDERS:
        yield f"L5 line {node.lineno}"


def class_faults(node):
    if len(node.bases) > 1 or node.keywords or node.decorator_list:
        yield f"L5 line {node.lineno}"
    if not all(isinstance(part, (ast.FunctionDef, ast.Pass)) for part in node.body):
        yield f"L5 line {node.lineno}: a value in the class body"
    names = [part.name for part in node.body if isinstance(part, ast.FunctionDef)]
    if len(names) != len(set(names)):
        yield f"L18 line {node.lineno}: a method stands twice"


def statement_faults(node):
    if not isinstance(node, STATEMENTS):
        yield f"L6 line {node.lineno}: {node.__class__.__name__}"
    if isinstance(node, ast.Assign) and len(node.targets) != 1:
        yield f"L6 line {node.lineno}: two targets"
    if isinstance(node, (ast.For, ast.While)) and node.orelse:
        yield f"L6 line {node.lineno}: else behind a loop"
    if isinstance(node, ast.Try):
        caught = [getattr(handler.type, "id", None) for handler in node.handlers]
        if node.finalbody or "Exception" in caught or "TypeError" in caught or None in caught:
            yield f"L6/L19 line {node.lineno}"
    if isinstance(node, ast.Expr) and not isinstance(node.value, (ast.Call, ast.Constant)):
        yield f"L6 line {node.lineno}: an expression by itself"
    if isinstance(node, ast.FunctionDef):
        yield from function_faults(node)
    if isinstance(node, ast.ClassDef):
        yield from class_faults(node)


def expression_faults(node):
    if not isinstance(node, EXPRESSIONS):
        yield f"L7 line {node.lineno}: {node.__class__.__name__}"
    if isinstance(node, ast.Constant) and not isinstance(node.value, (int, str)) and node.value is not None:
        yield f"L7 line {node.lineno}: {node.value!r}"
    if isinstance(node, ast.Constant) and isinstance(node.value, str) and "%" in node.value:
        yield f"L27 line {node.lineno}: a percent sign in a text"
    if isinstance(node, ast.BinOp) and isinstance(node.op, (ast.Div, ast.MatMult)):
        yield f"L7 line {node.lineno}"
    if isinstance(node, ast.BinOp) and isinstance(node.op, ast.Pow):
        exponent = getattr(node.right, "value", None)
        if not isinstance(exponent, int) or not 0 <= exponent <= 64:
            yield f"L27 line {node.lineno}"
    if isinstance(node, ast.ListComp) and (len(node.generators) != 1 or len(node.generators[0].ifs) > 1):
        yield f"L7 line {node.lineno}: a comprehension of several parts"
    if isinstance(node, ast.FormattedValue):
        if not isinstance(node.value, ast.Name) or node.format_spec or node.conversion not in (-1, ord("r")):
            yield f"L7 line {node.lineno}: more than a name in an f-string"
    if isinstance(node, ast.Compare):
        yield from compare_faults(node)


def compare_faults(node):
    sides = [node.left] + node.comparators
    for turn, sign in enumerate(node.ops):
        plain = [isinstance(side, ast.Constant) and side.value in (None, True, False) for side in sides[turn:turn + 2]]
        if isinstance(sign, (ast.Is, ast.IsNot)) and not any(plain):
            yield f"L20 line {node.lineno}"


def faults_of(text, package_names=frozenset()):
    tree = ast.parse(text)
    found = list(text_faults(text)) + list(top_faults(tree)) + list(name_faults(tree))
    found += list(method_call_faults(tree, package_names)) + list(value_faults(tree, package_names))
    found += list(set_faults(tree)) + list(local_faults(tree))
    for node in ast.walk(tree):
        if isinstance(node, ast.stmt):
            found += list(statement_faults(node))
        elif isinstance(node, ast.expr):
            found += list(expression_faults(node))
    return found


def package_files():
    return sorted(path for path in PACKAGE.rglob("*") if "__pycache__" not in path.parts)


class Language(unittest.TestCase):
    def test_only_plain_python_files_lie_in_the_package(self):
        names = [path.name for path in package_files()]
        self.assertIn("__init__.py", names)
        for name in names:
            self.assertRegex(name, r"^([a-z][a-z0-9_]*|__init__|__main__)\.py$")

    def test_each_file_keeps_to_the_rules(self):
        texts = {path.name: path.read_text(encoding="utf-8") for path in package_files()}
        package_names = set().union(*[method_names(ast.parse(text)) for text in texts.values()])
        for name, text in texts.items():
            with self.subTest(file=name):
                self.assertEqual(faults_of(text, package_names), [])

    def test_each_name_is_drawn_from_the_file_that_defines_it(self):
        trees = {path.stem: ast.parse(path.read_text(encoding="utf-8")) for path in package_files()}
        for stem, tree in trees.items():
            for node in [node for node in tree.body if isinstance(node, ast.ImportFrom)]:
                there = trees[node.module.split(".")[1]]
                own = {name for part in there.body for line, name in bound_names(ast.Module([part], []))
                       if at_top(part, name)} - imported_names(there)
                self.assertLessEqual({alias.name for alias in node.names}, own, f"L16 in {stem}")

    def test_no_two_files_draw_from_one_another(self):
        drawn = {}
        for path in package_files():
            tree = ast.parse(path.read_text(encoding="utf-8"))
            drawn[path.stem] = {
                node.module.split(".")[1] for node in tree.body if isinstance(node, ast.ImportFrom)
            }
        self.assertEqual(drawn["__init__"], set())
        while drawn:
            free = [name for name in drawn if not drawn[name] & set(drawn)]
            self.assertTrue(free, f"a ring of imports: {sorted(drawn)}")
            for name in free:
                drawn.pop(name)

    def test_the_walk_lets_sets_be_where_they_may_stand(self):
        for text in ["sorted(set(a) | set(a))", "len(set(a))", "1 in set(a)", "set(a) == set(a)"]:
            self.assertEqual(faults_of(f"def f(a):\n    return {text}\n"), [])

    def test_the_walk_sees_faults(self):
        for text in [
            "import os\n", "from deltahouse.heaps import *\n", "def f(*a):\n    return a\n", "x = 1.5\n",
            "def f(a):\n    return a / 2\n", "def f(a):\n    return {b for b in a}\n", "def f(a):\n    del a\n",
            "def f(a):\n    return open(a)\n", "def f(a):\n    return a.sort()\n", "def f(_a):\n    return 1\n",
            "def f(a, b):\n    return a is b\n", "x = 'a type'\n", "x = '%'\n", "x = 1\nx = 2\n",
            "def f(a):\n    b = c = a\n    return b\n", "def f(a):\n    return 2 ** a\n", "def f(min):\n    return 1\n",
            "class A:\n    x = 1\n", "x = '\u00e4'\n", "def f(a):\n    return [c for b in a for c in b]\n",
            "def f(a):\n    with a:\n        pass\n", "def f(a):\n    return f'{a + 1}'\n",
            "def f(a):\n" + "    a = a\n" * 40,
            "def f(a):\n    try:\n        a()\n    except Exception:\n        pass\n",
            "class A:\n    def f(self):\n        self.keys = 1\n", "class A:\n    def f(self):\n        self.f = 1\n",
            "def f(a):\n    return set(a)\n", "def f(a):\n    b = set(a) | set(a)\n    return len(b)\n",
            "def f(a):\n    return [b for b in set(a)]\n", "def f(a):\n    return list(set(a))\n",
            "from deltahouse.heaps import plus\n\n\ndef f(plus):\n    return 1\n",
            "from deltahouse.heaps import plus\n\n\ndef f(a):\n    plus = a\n    return 1\n",
            "class A:\n    pass\n\n\ndef f(a):\n    return [1 for A in a]\n",
        ]:
            with self.subTest(text=text):
                self.assertNotEqual(faults_of(text), [])


if __name__ == "__main__":
    unittest.main()
