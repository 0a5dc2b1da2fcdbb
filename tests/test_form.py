"""The package keeps to its small part of Python: the rules of the form that a look at the code can tell."""

import ast
import builtins
import pathlib
import re
import unittest

PACKAGE = pathlib.Path(__file__).resolve().parent.parent / "basehouse"

STATEMENTS = (
    ast.Module, ast.FunctionDef, ast.ClassDef, ast.ImportFrom, ast.Assign, ast.AugAssign, ast.If, ast.While,
    ast.For, ast.Return, ast.Break, ast.Continue, ast.Pass, ast.Raise, ast.Try, ast.ExceptHandler, ast.Expr,
)
EXPRESSIONS = (
    ast.Constant, ast.Name, ast.List, ast.Tuple, ast.Dict, ast.Set, ast.BinOp, ast.UnaryOp, ast.BoolOp,
    ast.Compare, ast.IfExp, ast.Call, ast.Attribute, ast.Subscript, ast.Slice, ast.ListComp, ast.JoinedStr,
    ast.FormattedValue, ast.Lambda, ast.comprehension, ast.arguments, ast.arg, ast.keyword, ast.alias,
    ast.operator, ast.unaryop, ast.boolop, ast.cmpop, ast.expr_context,
)
OWN_NAMES = set("""
    len range enumerate zip min max sum abs sorted reversed int str bool list tuple dict set frozenset isinstance
    ord repr any all divmod Exception ValueError TypeError KeyError IndexError LookupError ZeroDivisionError
    ArithmeticError OverflowError RuntimeError NotImplementedError AttributeError StopIteration
""".split())
OWN_METHODS = set("""
    append clear copy count endswith extend find get index insert isalnum isalpha isdigit islower isspace isupper
    items join keys ljust lower lstrip partition pop remove replace reverse rfind rjust rpartition rsplit rstrip
    setdefault split splitlines startswith strip update upper values zfill bit_length
""".split())
TWO_UNDERSCORES = {"__init__", "__eq__", "__repr__", "__str__", "__len__"}
BARRED_WORDS = re.compile(r"\b(type|typing|typing_extensions|enum|Enum|IntEnum|StrEnum|Flag|IntFlag|Generic|Protocol"
                          r"|ABC|ABCMeta|namedtuple|NamedTuple|TypedDict|TYPE_CHECKING|abstractmethod)\b"
                          r"|dataclass|overload|contextmanager")


def text_faults(text):
    faults = []
    for row, line in enumerate(text.split("\n"), start=1):
        if len(line) > 120:
            faults.append(f"L10 line {row}: too long")
        if any(not " " <= sign <= "~" for sign in line):
            faults.append(f"L14 line {row}: a sign that is not plain")
        if BARRED_WORDS.search(line):
            faults.append(f"L17 line {row}: a barred word")
    if text.count("\n") > 400:
        faults.append("L10 file too long")
    return faults


def bound_names(node):
    if isinstance(node, (ast.FunctionDef, ast.ClassDef)):
        return [node.name]
    if isinstance(node, ast.arg):
        return [node.arg]
    if isinstance(node, ast.Name) and isinstance(node.ctx, ast.Store):
        return [node.id]
    if isinstance(node, ast.ExceptHandler) and node.name:
        return [node.name]
    return []


def name_faults(node):
    faults = []
    for name in bound_names(node):
        if name in TWO_UNDERSCORES and isinstance(node, ast.FunctionDef):
            continue
        if not re.fullmatch(r"[A-Za-z][A-Za-z0-9_]*", name):
            faults.append(f"L12 {name}")
        if hasattr(builtins, name):
            faults.append(f"L15 {name}")
    if isinstance(node, ast.Name) and hasattr(builtins, node.id) and node.id not in OWN_NAMES:
        faults.append(f"L8 {node.id}")
    return faults


def import_faults(node):
    if not isinstance(node, ast.ImportFrom):
        return []
    faults = []
    if node.level != 0 or not (node.module or "").startswith("basehouse."):
        faults.append("L2 drawn from elsewhere")
    if any(alias.name == "*" or alias.asname for alias in node.names):
        faults.append("L2 star or another name")
    return faults


def def_faults(node):
    faults = []
    if isinstance(node, (ast.FunctionDef, ast.ClassDef)) and node.decorator_list:
        faults.append("L4 L5 decorator")
    if isinstance(node, ast.FunctionDef) and node.end_lineno - node.lineno >= 40:
        faults.append(f"L10 {node.name} too long")
    if isinstance(node, ast.arguments) and (node.vararg or node.kwarg or node.kwonlyargs or node.posonlyargs):
        faults.append("L4 star in parameters")
    if isinstance(node, ast.ClassDef):
        if len(node.bases) > 1 or node.keywords:
            faults.append("L5 bases")
        if any(not isinstance(part, (ast.FunctionDef, ast.Pass)) for part in node.body):
            faults.append("L5 a value in a class body")
    return faults


def statement_faults(node):
    faults = []
    if not isinstance(node, STATEMENTS + EXPRESSIONS):
        faults.append(f"L6 L7 {node.__class__.__name__}")
    if isinstance(node, (ast.For, ast.While)) and node.orelse:
        faults.append("L6 else behind a loop")
    if isinstance(node, ast.Try) and node.finalbody:
        faults.append("L6 finally")
    if isinstance(node, ast.Assign) and len(node.targets) != 1:
        faults.append("L6 several targets")
    if isinstance(node, ast.ExceptHandler) and node.type is None:
        faults.append("L6 except without a name")
    return faults


def value_faults(node):
    faults = []
    if isinstance(node, ast.Constant) and not isinstance(node.value, (int, str, bool, type(None))):
        faults.append("L7 a value of another kind")
    if isinstance(node, ast.Constant) and isinstance(node.value, str) and "%" in node.value:
        faults.append("L27 the percent sign in a text")
    if isinstance(node, (ast.BinOp, ast.AugAssign)) and isinstance(node.op, (ast.Div, ast.MatMult)):
        faults.append("L7 division with a rest lost")
    if isinstance(node, (ast.BinOp, ast.AugAssign)) and isinstance(node.op, ast.Pow):
        power = node.right if isinstance(node, ast.BinOp) else node.value
        if not (isinstance(power, ast.Constant) and power.value in range(65)):
            faults.append("L27 an exponent that is not written")
    if isinstance(node, ast.comprehension) and len(node.ifs) > 1:
        faults.append("L7 a comprehension with several ifs")
    if isinstance(node, ast.ListComp) and len(node.generators) > 1:
        faults.append("L7 a comprehension with several fors")
    if isinstance(node, ast.Compare) and any(isinstance(op, (ast.Is, ast.IsNot)) for op in node.ops):
        if not all(isinstance(side, ast.Constant) and side.value in (None, True, False) for side in node.comparators):
            faults.append("L20 is")
    return faults


def top_faults(tree):
    faults = []
    for place, node in enumerate(tree.body):
        docstring = place == 0 and isinstance(node, ast.Expr) and isinstance(node.value, ast.Constant)
        if not docstring and not isinstance(node, (ast.ImportFrom, ast.FunctionDef, ast.ClassDef, ast.Assign)):
            faults.append("L3 something done at a file's top")
    inner = [node for part in tree.body for node in ast.walk(part) if node is not part]
    if any(isinstance(node, (ast.ImportFrom, ast.ClassDef)) for node in inner):
        faults.append("L2 L15 an import or a class that is not at the top")
    for node in inner:
        if isinstance(node, ast.Expr) and not isinstance(node.value, ast.Call):
            faults.append("L6 a value by itself")
    return faults


def name_at_top_faults(tree):
    """Names bound twice at the top, and parameters and locals called like a class or an import of the file."""
    drawn = [alias.name for node in tree.body if isinstance(node, ast.ImportFrom) for alias in node.names]
    bound = drawn + [name for node in tree.body for name in tops_of(node)]
    faults = [f"L15 {name} bound twice" for name in bound if bound.count(name) > 1]
    taken = set(drawn) | {node.name for node in tree.body if isinstance(node, ast.ClassDef)}
    for part in tree.body:
        for node in ast.walk(part):
            if node is not part:
                faults.extend(f"L15 {name} is the file's own" for name in bound_names(node) if name in taken)
    return faults


def top_value_faults(tree):
    """Values at the top that are not plain ones, or lists and the like of plain ones and of functions above."""
    faults = []
    above = set()
    for part in tree.body:
        if isinstance(part, ast.FunctionDef):
            above.add(part.name)
        for node in ast.walk(part.value) if isinstance(part, ast.Assign) else []:
            named = isinstance(node, ast.Name) and node.id in above and node is not part.value
            plain = isinstance(node, (ast.Constant, ast.List, ast.Tuple, ast.Dict, ast.UnaryOp, ast.USub, ast.Load))
            if not named and not plain:
                faults.append(f"L3 a value at line {part.lineno}")
            inner = isinstance(node, (ast.List, ast.Dict)) and node is not part.value
            if inner:
                faults.append(f"L15 a list within a list at line {part.lineno}")
    return faults


def set_faults(tree):
    """Sets that are kept or walked: each stands within sorted or len, or beside another in a comparison."""
    right = []
    for node in ast.walk(tree):
        if isinstance(node, ast.Call) and isinstance(node.func, ast.Name) and node.func.id in ("sorted", "len"):
            right.extend(node.args)
        if isinstance(node, ast.Compare):
            right.extend(node.comparators + [node.left])
        if isinstance(node, ast.BinOp) and node in right:
            right.extend([node.left, node.right])
    calls = [node for node in ast.walk(tree) if isinstance(node, ast.Call) and isinstance(node.func, ast.Name)]
    sets = [node for node in calls if node.func.id in ("set", "frozenset")]
    return [f"L24 a set at line {node.lineno}" for node in sets if node not in right]


KEYWORDS = {"sorted": {"key", "reverse"}, "min": {"key", "default"}, "max": {"key", "default"}, "sum": {"start"},
            "enumerate": {"start"}, "zip": {"strict"}}


def call_faults(node):
    if not isinstance(node, ast.Call):
        return []
    name = node.func.id if isinstance(node.func, ast.Name) else ""
    told = [keyword.arg for keyword in node.keywords]
    if name in OWN_NAMES or isinstance(node.func, ast.Attribute):
        return [f"L22 {word} at {name}" for word in told if word not in KEYWORDS.get(name, set())]
    return []


def walked_faults(tree):
    """What is to be walked on the spot, but is kept."""
    faults = []
    for node in ast.walk(tree):
        if isinstance(node, (ast.Assign, ast.Return)) and isinstance(node.value, ast.Call):
            func = node.value.func
            name = func.id if isinstance(func, ast.Name) else func.attr if isinstance(func, ast.Attribute) else ""
            if name in ("zip", "enumerate", "reversed", "range", "items", "keys", "values"):
                faults.append(f"L23 {name} at line {node.lineno}")
    return faults


def tops_of(node):
    if isinstance(node, (ast.FunctionDef, ast.ClassDef)):
        return [node.name]
    if isinstance(node, ast.Assign):
        return [target.id for target in node.targets if isinstance(target, ast.Name)]
    return []


def faults_of(text):
    tree = ast.parse(text)
    faults = text_faults(text) + top_faults(tree) + name_at_top_faults(tree) + top_value_faults(tree)
    faults = faults + set_faults(tree) + walked_faults(tree)
    for node in ast.walk(tree):
        found = name_faults(node) + import_faults(node) + def_faults(node)
        found = found + statement_faults(node) + value_faults(node) + call_faults(node)
        faults.extend(f"{fault} (line {getattr(node, 'lineno', '?')})" for fault in found)
    return faults


def drawn_faults(trees):
    """What is drawn from a file that does not define it, and files that draw from one another; trees by file name."""
    faults = []
    draws = {}
    for name, tree in trees.items():
        rows = [node for node in tree.body if isinstance(node, ast.ImportFrom)]
        draws[name] = {node.module.partition(".")[2] for node in rows}
        for node in rows:
            source = trees[node.module.partition(".")[2]]
            defined = {top for part in source.body for top in tops_of(part)}
            faults.extend(f"L16 {name}: {alias.name}" for alias in node.names if alias.name not in defined)
    left = dict(draws)
    while left:
        free = [name for name in left if not any(other in left for other in left[name])]
        if not free:
            return faults + [f"L16 {sorted(left)} draw from one another"]
        left = {name: others for name, others in left.items() if name not in free}
    return faults


def methods_and_values(trees):
    methods = set()
    values = set()
    for tree in trees:
        for node in ast.walk(tree):
            if isinstance(node, ast.ClassDef):
                methods.update(part.name for part in node.body if isinstance(part, ast.FunctionDef))
            if isinstance(node, ast.Attribute) and isinstance(node.ctx, ast.Store):
                values.add(node.attr)
    return methods, values


class Form(unittest.TestCase):
    def files(self):
        return sorted(path for path in PACKAGE.rglob("*") if "__pycache__" not in path.parts)

    def test_nothing_but_plain_files(self):
        for path in self.files():
            self.assertTrue(path.is_file(), path)
            self.assertRegex(path.name, r"^(__init__|[a-z][a-z0-9_]*)\.py$")

    def test_every_file_keeps_to_the_form(self):
        for path in self.files():
            self.assertEqual(faults_of(path.read_text(encoding="utf-8")), [], path)

    def trees(self):
        return {path.stem: ast.parse(path.read_text(encoding="utf-8")) for path in self.files()}

    def test_names_are_drawn_from_where_they_are_defined(self):
        self.assertEqual(drawn_faults(self.trees()), [])

    def test_no_name_is_a_method_and_a_value(self):
        methods, values = methods_and_values(self.trees().values())
        self.assertEqual(methods & values, set())

    def test_attributes_are_told_ones(self):
        trees = self.trees().values()
        methods, values = methods_and_values(trees)
        told = OWN_METHODS | methods | values | {"__init__"}
        for tree in trees:
            for node in ast.walk(tree):
                if isinstance(node, ast.Attribute):
                    self.assertIn(node.attr, told)

    def test_the_look_finds_faults(self):
        wrong = [
            "import os\n", "from .sets import size\n", "from basehouse.sets import *\n",
            "print(1)\n", "x = 1 / 2\n", "x = 1.5\n", "x = y = 1\n", "x = {k: k for k in y}\n",
            "def f(*a):\n    return a\n", "def f(n):\n    return 2 ** n\n", "def f(x):\n    'told'\n    return x\n",
            "def f(x):\n    return x is 3\n", "def f(x):\n    with x:\n        pass\n", "def f():\n    return chr(1)\n",
            "def f(list):\n    return list\n", "def f(_x):\n    return _x\n", "class C:\n    x = 1\n",
            "x = 'a%b'\n", "x = 1 # a type\n", "\tx = 1\n".lstrip() + "# \t\n", "x = 1  # " + "a" * 120 + "\n",
            "def f():\n" + "    pass\n" * 40, "def f(x):\n    return [a for a in x if a if a]\n",
            "from basehouse.sets import size\ndef f(size):\n    return size\n", "x = 1\nx = 2\n",
            "class C:\n    pass\ndef f(x):\n    return [C for C in x]\n",
            "x = [[1]]\n", "from basehouse.sets import size\nx = (size, 1)\n", "x = 1 + 2\n",
            "def f(x):\n    return set(x)\n", "def f(x):\n    for a in set(x):\n        pass\n",
            "def f(x):\n    return sorted(x, default=1)\n", "def f(x):\n    return int(x, base=2)\n",
            "def f(x):\n    a = zip(x, x)\n    return list(a)\n", "def f(x):\n    return x.items()\n",
        ]
        for text in wrong:
            self.assertNotEqual(faults_of(text), [], text)

    def test_the_look_finds_files_that_draw_from_one_another(self):
        one = ast.parse("from basehouse.b import g\ndef f():\n    return 1\n")
        right = ast.parse("def g():\n    return 1\n")
        round_about = ast.parse("from basehouse.a import f\ndef g():\n    return 1\n")
        elsewhere = ast.parse("from basehouse.c import g\n")
        self.assertEqual(drawn_faults({"a": one, "b": right}), [])
        self.assertNotEqual(drawn_faults({"a": one, "b": round_about}), [])
        self.assertNotEqual(drawn_faults({"a": one, "b": elsewhere, "c": right}), [])


if __name__ == "__main__":
    unittest.main()
