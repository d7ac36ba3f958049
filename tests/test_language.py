"""Many of the rules of LANGUAGE.md, not all: what a look at the files shows. Each fault begins with its rule."""

import ast
import builtins
import re
import unittest
from pathlib import Path

PACKAGE = Path(__file__).resolve().parent.parent / "wavewires"
# In the document's order: each module draws from those ahead of it alone.
MODULES = (
    "errors ring shares states circuits reading runs sums away words tables tableruns "
    "forms alike slides shorten later tell").split()
BUILTINS = set(
    "len range enumerate zip min max sum abs sorted reversed int str bool list tuple dict set frozenset isinstance "
    "ord repr any all divmod Exception ValueError TypeError KeyError IndexError LookupError ZeroDivisionError "
    "ArithmeticError OverflowError RuntimeError NotImplementedError AttributeError StopIteration".split())
METHODS = set(
    "append clear copy count endswith extend find get index insert isalnum isalpha isdigit islower isspace isupper "
    "items join keys ljust lower lstrip partition pop remove replace reverse rfind rjust rpartition rsplit rstrip "
    "setdefault split splitlines startswith strip update upper values zfill bit_length".split())
PYTHONS_OWN = [name for name in dir(builtins) if not name.startswith("_")]
DUNDERS = ("__init__", "__eq__", "__repr__", "__str__", "__len__")
BARRED_WORDS = re.compile(
    r"\b(type|typing|typing_extensions|enum|Enum|IntEnum|StrEnum|Flag|IntFlag|Generic|Protocol|ABC|ABCMeta|namedtuple"
    r"|NamedTuple|TypedDict|TYPE_CHECKING|abstractmethod)\b|dataclass|overload|contextmanager")
BARRED_NAMES = set(
    "register mro elements open input version_info with_traceback add_note attrgetter breakpoint builtins compile "
    "copyright credits delattr dir eval exec exit gc getattr globals hasattr help id importlib license locals "
    "methodcaller os quit setattr super type vars sys chr format format_map sort".split())
WALKED = ("zip", "enumerate", "reversed", "range", "items", "keys", "values")
WALKERS = ("list", "tuple", "dict", "sorted", "sum", "any", "all", "enumerate", "zip", "min", "max", "join")
TOP = (ast.ImportFrom, ast.FunctionDef, ast.ClassDef, ast.Assign)
STATEMENTS = (
    ast.Assign, ast.AugAssign, ast.If, ast.While, ast.For, ast.Return, ast.Break, ast.Continue, ast.Pass, ast.Raise,
    ast.Try, ast.Expr, ast.FunctionDef, ast.ClassDef, ast.ImportFrom)
BARRED_EXPRESSIONS = (
    ast.Div, ast.MatMult, ast.SetComp, ast.DictComp, ast.GeneratorExp, ast.NamedExpr, ast.Starred, ast.Await,
    ast.Yield, ast.YieldFrom)


def text_faults(text):
    lines = text.split("\n")
    if len(lines) > 401:
        yield "L10 a file of more than 400 lines"
    for line in lines:
        if len(line) > 120:
            yield f"L10 a long line: {line}"
        if any(not " " <= sign <= "~" for sign in line):
            yield f"L14 a sign: {line!r}"
        if BARRED_WORDS.search(line):
            yield f"L17 a word: {line}"


def import_faults(name, node):
    if node.level or node.names[0].name == "*":
        yield "L2 a leading dot or a star"
    above = MODULES[:MODULES.index(name)] if name in MODULES else []
    if not (node.module or "").startswith("wavewires.") or node.module.split(".", 1)[1] not in above:
        yield f"L2 {name} draws from {node.module}"


def top_faults(name, tree):
    docstring = tree.body and isinstance(tree.body[0], ast.Expr) and ast.get_docstring(tree)
    bound = []
    for node in tree.body[1:] if docstring else tree.body:
        if not isinstance(node, TOP):
            yield f"L3 at the top, line {node.lineno}"
        if isinstance(node, ast.ImportFrom):
            yield from import_faults(name, node)
            bound += [alias.asname or alias.name for alias in node.names]
        elif isinstance(node, (ast.FunctionDef, ast.ClassDef)):
            bound.append(node.name)
        elif isinstance(node, ast.Assign):
            bound += [target.id for target in node.targets]
    if len(bound) != len(set(bound)):
        yield "L15 a name bound twice at the top"


def function_faults(node):
    arguments = node.args
    if arguments.vararg or arguments.kwarg or arguments.kwonlyargs or arguments.posonlyargs or node.decorator_list:
        yield f"L4 {node.name}"
    if node.end_lineno - node.lineno + 1 > 40:
        yield f"L10 {node.name} has more than 40 lines"


def class_faults(node):
    if len(node.bases) > 1 or node.keywords or node.decorator_list:
        yield f"L5 {node.name}"
    if any(not isinstance(inner, (ast.FunctionDef, ast.Pass)) for inner in node.body):
        yield f"L5 in {node.name}"


def statement_faults(node):
    if not isinstance(node, STATEMENTS):
        yield f"L6 line {node.lineno}"
    if isinstance(node, ast.Expr) and not isinstance(node.value, ast.Call):
        yield f"L6 no call, line {node.lineno}"
    if isinstance(node, ast.Assign) and len(node.targets) > 1:
        yield f"L6 targets, line {node.lineno}"
    if isinstance(node, (ast.For, ast.While)) and node.orelse:
        yield f"L6 else behind a loop, line {node.lineno}"
    if isinstance(node, ast.Try) and (node.finalbody or any(h.type is None for h in node.handlers)):
        yield f"L6 try, line {node.lineno}"


def expression_faults(node):
    if isinstance(node, BARRED_EXPRESSIONS):
        yield f"L7 {node!r}"
    if isinstance(node, ast.ListComp) and (len(node.generators) > 1 or len(node.generators[0].ifs) > 1):
        yield "L7 a comprehension"
    if isinstance(node, ast.Constant) and isinstance(node.value, (float, complex, bytes)):
        yield f"L7 {node.value!r}"
    if isinstance(node, ast.Constant) and isinstance(node.value, str) and "%" in node.value:
        yield "L27 a text"
    if isinstance(node, ast.BinOp) and isinstance(node.op, ast.Pow) and not isinstance(node.right, ast.Constant):
        yield "L27 a power"
    if isinstance(node, ast.Compare) and any(isinstance(op, (ast.Is, ast.IsNot)) for op in node.ops):
        if not any(isinstance(side, ast.Constant) for side in [node.left] + node.comparators):
            yield "L20 is"
    if isinstance(node, ast.FormattedValue):
        if not isinstance(node.value, ast.Name) or node.format_spec or node.conversion not in (-1, ord("r")):
            yield "L7 an f-string"


def called(node):
    """The name or method that is called, if the node is a call."""
    if not isinstance(node, ast.Call):
        return None
    return node.func.id if isinstance(node.func, ast.Name) else node.func.attr


def walk_faults(tree):
    """What is made only to be walked, and sets, beside what they stand in."""
    for outer in ast.walk(tree):
        for inner in ast.iter_child_nodes(outer):
            within = called(outer) if isinstance(outer, ast.Call) and inner in outer.args else None
            if called(inner) in WALKED and not (isinstance(outer, (ast.For, ast.comprehension)) or within in WALKERS):
                yield f"L23 {called(inner)}, line {inner.lineno}"
            if called(inner) in ("set", "frozenset") or isinstance(inner, ast.Set):
                if within not in ("sorted", "len") and not isinstance(outer, (ast.Compare, ast.BinOp)):
                    yield f"L24 a set, line {inner.lineno}"


def names_of(node):
    if isinstance(node, ast.Name):
        return [node.id]
    if isinstance(node, ast.arg):
        return [node.arg]
    if isinstance(node, ast.Attribute):
        return [node.attr]
    if isinstance(node, (ast.FunctionDef, ast.ClassDef)):
        return [node.name]
    return []


def name_faults(tree):
    values = [node.attr for node in ast.walk(tree) if isinstance(node, ast.Attribute) and isinstance(node.ctx, ast.Store)]
    methods = [node.name for node in ast.walk(tree) if isinstance(node, ast.FunctionDef)]
    for node in ast.walk(tree):
        for name in names_of(node):
            if name in BARRED_NAMES or (name.startswith("_") and name not in DUNDERS) or not name.isascii():
                yield f"L8, L12, L17 {name}"
        if isinstance(node, ast.Attribute) and node.attr not in METHODS | set(DUNDERS + tuple(values + methods)):
            yield f"L25 {node.attr}"
        if isinstance(node, ast.Name) and node.id in PYTHONS_OWN:
            if node.id not in BUILTINS or not isinstance(node.ctx, ast.Load):
                yield f"L8 {node.id}"
        if isinstance(node, (ast.arg, ast.FunctionDef, ast.ClassDef)) and names_of(node)[0] in PYTHONS_OWN:
            yield f"L15 {names_of(node)[0]}"


def faults_of(name, text):
    tree = ast.parse(text)
    found = list(text_faults(text)) + list(top_faults(name, tree)) + list(name_faults(tree)) + list(walk_faults(tree))
    docstring = tree.body[0] if ast.get_docstring(tree) else None
    for node in ast.walk(tree):
        if isinstance(node, ast.stmt) and node is not docstring:
            found += statement_faults(node)
        if isinstance(node, ast.FunctionDef):
            found += function_faults(node)
        if isinstance(node, ast.ClassDef):
            found += class_faults(node)
        found += expression_faults(node)
    return found


class Language(unittest.TestCase):
    def test_files(self):
        for path in PACKAGE.iterdir():
            if path.name != "__pycache__":
                self.assertIn(path.name, ["__init__.py"] + [name + ".py" for name in MODULES])

    def test_each_file_keeps_to_the_rules(self):
        for path in sorted(PACKAGE.glob("*.py")):
            self.assertEqual(faults_of(path.stem, path.read_text("ascii")), [], path.name)

    def test_imported_names_are_defined_where_they_are_drawn_from(self):
        for path in PACKAGE.glob("*.py"):
            for node in ast.parse(path.read_text("ascii")).body:
                if isinstance(node, ast.ImportFrom):
                    source = ast.parse((PACKAGE / (node.module.split(".")[1] + ".py")).read_text("ascii"))
                    there = [n.name for n in source.body if isinstance(n, (ast.FunctionDef, ast.ClassDef))]
                    there += [t.id for n in source.body if isinstance(n, ast.Assign) for t in n.targets]
                    self.assertLessEqual({alias.name for alias in node.names}, set(there))

    def test_faults_are_seen(self):
        bad = (
            "import math", "from wavewires.shares import share", "from wavewires import errors", "print(1)",
            "def f(*a):\n    return a", "def f(x):\n    return x / 2", "def f(x):\n    return 2 ** x",
            "def f(x):\n    del x", "def f(x):\n    a = b = x\n    return a + b", "def f(list):\n    return list",
            "def f(x):\n    return x is f", "def f(x):\n    return sum(y for y in x)", "X = 1.5", "X = 1\nX = 2",
            "def _f():\n    pass", "# a type", "X = '\u00e9'", "X = 1" + " " * 120, "def f():\n" + "    pass\n" * 41,
            "def f(x):\n    return x.encode()", "def f():\n    return open", "class C:\n    x = 1", "X = 'a%b'",
            "def f(x):\n    return f'{x[0]}'", "def f(x):\n    return f'{x:3}'", "def f(x):\n    y = range(x)\n    return y",
            "def f(x):\n    return x.items()", "def f(x):\n    y = set(x)\n    return y", "def f(x):\n    return {x}",
            "def f():\n    'words'", "def f(x):\n    for y in x:\n        pass\n    else:\n        pass")
        for text in bad:
            self.assertNotEqual(faults_of("ring", text), [], text)
        good = (
            "'''Words.'''\nX = 1\n\n\ndef f(x):\n    return x + X\n", "def f(x):\n    return f'{x} and {x!r}'",
            "def f(x):\n    return [y for y in range(x)]", "def f(x):\n    return sorted(set(x)) + sorted(x.items())")
        for text in good:
            self.assertEqual(faults_of("ring", text), [], text)


if __name__ == "__main__":
    unittest.main()
