"""Looks through a file of the package for what lies outside the kept part of Python.

It sees what is written, not what is meant: the rules that speak of how a value is used
(parts of L15, L18, L19, L23, L24) are left to the reader.
"""

import ast
import builtins
import re

STATEMENTS = (
    ast.FunctionDef, ast.ClassDef, ast.ImportFrom, ast.Assign, ast.AugAssign, ast.If, ast.While, ast.For,
    ast.Return, ast.Break, ast.Continue, ast.Pass, ast.Raise, ast.Try, ast.Expr,
)
EXPRESSIONS = (
    ast.Constant, ast.List, ast.Tuple, ast.Dict, ast.Set, ast.BinOp, ast.UnaryOp, ast.BoolOp, ast.Compare,
    ast.IfExp, ast.Call, ast.Attribute, ast.Subscript, ast.Slice, ast.ListComp, ast.JoinedStr,
    ast.FormattedValue, ast.Name, ast.Lambda,
)
AT_TOP = (ast.FunctionDef, ast.ClassDef, ast.ImportFrom, ast.Assign)
PYTHONS_OWN = set(
    "len range enumerate zip min max sum abs sorted reversed int str bool list tuple dict set frozenset "
    "isinstance ord repr any all divmod Exception ValueError TypeError KeyError IndexError LookupError "
    "ZeroDivisionError ArithmeticError OverflowError RuntimeError NotImplementedError AttributeError "
    "StopIteration".split())
METHODS = set(
    "append clear copy count endswith extend find get index insert isalnum isalpha isdigit islower isspace "
    "isupper items join keys ljust lower lstrip partition pop remove replace reverse rfind rjust rpartition "
    "rsplit rstrip setdefault split splitlines startswith strip update upper values zfill bit_length".split())
UNDERSCORED = {"__init__", "__eq__", "__repr__", "__str__", "__len__"}
NOWHERE = re.compile(
    r"\b(type|typing|typing_extensions|enum|Enum|IntEnum|StrEnum|Flag|IntFlag|Generic|Protocol|ABC|ABCMeta"
    r"|namedtuple|NamedTuple|TypedDict|TYPE_CHECKING|abstractmethod)\b|dataclass|overload|contextmanager")
WALKS = ("zip", "enumerate", "reversed", "range")
WALKERS = ("list", "tuple", "dict", "sorted", "sum", "any", "all", "enumerate", "zip")
SINGLES = ("None", "True", "False")
NOT_USED = {"register", "mro", "elements", "open", "input", "version_info", "with_traceback", "add_note",
            "format", "format_map"}


def faults(text):
    """A list of texts, one for each fault that is seen; `text` is the whole of a file."""
    tree = ast.parse(text)
    found = faults_of_text(text) + faults_of_top(tree) + faults_of_walks(tree) + faults_of_locals(tree)
    own = {node.name for node in ast.walk(tree) if isinstance(node, ast.FunctionDef)}
    for node in ast.walk(tree):
        place = getattr(node, "lineno", 0)
        for rule in faults_of_node(node, own):
            found.append(f"row {place}: {rule}")
    return found


def faults_of_text(text):
    rows = text.split("\n")
    found = [f"row {k}: L10 length" for k, row in enumerate(rows, 1) if len(row) > 120]
    found += [f"row {k}: L14 sign" for k, row in enumerate(rows, 1) if re.search("[^ -~]", row)]
    found += [f"row {k}: L17 word" for k, row in enumerate(rows, 1) if NOWHERE.search(row)]
    if len(text.splitlines()) > 400:
        found.append("L10 file")
    return found


def faults_of_top(tree):
    found = []
    bound = []
    for k, node in enumerate(tree.body):
        is_docstring = k == 0 and isinstance(node, ast.Expr) and isinstance(node.value, ast.Constant)
        if not isinstance(node, AT_TOP) and not is_docstring:
            found.append(f"row {node.lineno}: L3 top")
        if isinstance(node, (ast.FunctionDef, ast.ClassDef)):
            bound.append(node.name)
        elif isinstance(node, ast.ImportFrom):
            bound += [name.asname or name.name for name in node.names]
        elif isinstance(node, ast.Assign):
            bound += [name.id for name in node.targets if isinstance(name, ast.Name)]
    if len(set(bound)) < len(bound):
        found.append("L15 a name is bound twice")
    for node in ast.walk(tree):
        if isinstance(node, (ast.ImportFrom, ast.ClassDef)) and node not in tree.body:
            found.append(f"row {node.lineno}: L2, L15 not at the top")
    return found


def is_walk(node):
    if not isinstance(node, ast.Call):
        return False
    if isinstance(node.func, ast.Name):
        return node.func.id in WALKS
    return isinstance(node.func, ast.Attribute) and node.func.attr in ("items", "keys", "values")


def walked_by(node):
    """What is walked on the spot where this stands."""
    if isinstance(node, (ast.For, ast.comprehension)):
        return [node.iter]
    if not isinstance(node, ast.Call) or not node.args:
        return []
    if isinstance(node.func, ast.Attribute):
        return node.args if node.func.attr == "join" and isinstance(node.func.value, ast.Constant) else []
    if isinstance(node.func, ast.Name) and node.func.id in ("min", "max"):
        return node.args if len(node.args) == 1 else []
    return node.args[:1] if isinstance(node.func, ast.Name) and node.func.id in WALKERS else []


def faults_of_walks(tree):
    walked = [part for node in ast.walk(tree) for part in walked_by(node)]
    kept = [node for node in ast.walk(tree) if is_walk(node) and node not in walked]
    return [f"row {node.lineno}: L23 kept" for node in kept]


def faults_of_locals(tree):
    tops = [node.name for node in tree.body if isinstance(node, ast.ClassDef)]
    for node in tree.body:
        if isinstance(node, ast.ImportFrom):
            tops += [name.asname or name.name for name in node.names]
    found = []
    for node in ast.walk(tree):
        if isinstance(node, ast.arg) and node.arg in tops:
            found.append(f"row {node.lineno}: L15 parameter")
        if isinstance(node, ast.Name) and isinstance(node.ctx, ast.Store) and node.id in tops:
            found.append(f"row {node.lineno}: L15 local")
    return found


def faults_of_node(node, own):
    if isinstance(node, ast.stmt):
        return faults_of_statement(node)
    if isinstance(node, ast.expr):
        return faults_of_expression(node, own)
    if isinstance(node, ast.comprehension):
        return ["L6 async"] if node.is_async else []
    if isinstance(node, ast.arg):
        return faults_of_binding(node.arg) + (["L21 annotation"] if node.annotation else [])
    if isinstance(node, ast.ExceptHandler):
        return faults_of_handler(node)
    if isinstance(node, ast.arguments):
        return ["L4 parameters"] if node.vararg or node.kwarg or node.kwonlyargs or node.posonlyargs else []
    return []


def faults_of_statement(node):
    if not isinstance(node, STATEMENTS):
        return ["L6 statement"]
    if isinstance(node, ast.FunctionDef):
        return faults_of_function(node)
    if isinstance(node, ast.ClassDef):
        return faults_of_class(node)
    if isinstance(node, ast.ImportFrom):
        plain = node.level == 0 and node.module.startswith("manydeeds.")
        return [] if plain and all(name.name != "*" for name in node.names) else ["L2 import"]
    if isinstance(node, ast.Assign) and len(node.targets) > 1:
        return ["L6 targets"]
    if isinstance(node, (ast.For, ast.While)) and node.orelse:
        return ["L6 else behind a loop"]
    if isinstance(node, ast.Try) and node.finalbody:
        return ["L6 finally"]
    if isinstance(node, ast.Expr) and not isinstance(node.value, (ast.Call, ast.Constant)):
        return ["L6 a value by itself"]
    return []


def faults_of_function(node):
    found = faults_of_binding(node.name, is_function=True)
    if node.decorator_list:
        found.append("L4 decorator")
    if node.returns:
        found.append("L21 annotation")
    if node.end_lineno - node.lineno >= 40:
        found.append("L10 function")
    return found


def faults_of_class(node):
    found = faults_of_binding(node.name)
    if node.decorator_list or node.keywords or len(node.bases) > 1:
        found.append("L5 class")
    if not all(isinstance(part, (ast.FunctionDef, ast.Pass)) for part in node.body):
        found.append("L5 class body")
    names = [part.name for part in node.body if isinstance(part, ast.FunctionDef)]
    if len(set(names)) < len(names):
        found.append("L18 method twice")
    return found


def faults_of_handler(node):
    names = node.type.elts if isinstance(node.type, ast.Tuple) else [node.type]
    bare = [name for name in names if not isinstance(name, ast.Name)]
    wide = [name for name in names if isinstance(name, ast.Name) and name.id in ("Exception", "TypeError")]
    return ["L19 handler"] if bare or wide else []


def faults_of_binding(name, is_function=False):
    if is_function and name in UNDERSCORED:
        return []
    if name.startswith("_") or not re.fullmatch("[A-Za-z0-9_]+", name):
        return ["L12 name"]
    # A method may be called like a name of Python's own, where no other rule forbids it.
    if name in NOT_USED or (hasattr(builtins, name) and not is_function):
        return ["L15, L17 name"]
    return []


def faults_of_expression(node, own):
    if not isinstance(node, EXPRESSIONS):
        return ["L7 expression"]
    if isinstance(node, ast.Constant):
        return faults_of_constant(node.value)
    if isinstance(node, ast.BinOp):
        return ["L7 operator"] if isinstance(node.op, (ast.Div, ast.MatMult)) else []
    if isinstance(node, ast.ListComp):
        plain = len(node.generators) == 1 and len(node.generators[0].ifs) <= 1
        return [] if plain else ["L7 comprehension"]
    if isinstance(node, ast.Name):
        if isinstance(node.ctx, ast.Store):
            return faults_of_binding(node.id)
        return ["L8 name"] if hasattr(builtins, node.id) and node.id not in PYTHONS_OWN else []
    if isinstance(node, ast.Attribute):
        return faults_of_attribute(node)
    if isinstance(node, ast.Compare):
        return faults_of_is(node)
    if isinstance(node, ast.FormattedValue):
        return [] if isinstance(node.value, ast.Name) and node.format_spec is None else ["L7 f-string"]
    if isinstance(node, ast.Call) and isinstance(node.func, ast.Attribute):
        known = METHODS | own | {"__init__"}
        return faults_of_method(node.func.attr, known)
    return []


def faults_of_constant(value):
    if isinstance(value, (float, complex, bytes)) or value is ...:
        return ["L7 value"]
    return ["L27 sign"] if isinstance(value, str) and "%" in value else []


def faults_of_attribute(node):
    if node.attr in NOT_USED:
        return ["L17 name"]
    return ["L12 name"] if node.attr.startswith("_") and node.attr not in UNDERSCORED else []


def faults_of_is(node):
    sides = [node.left] + node.comparators
    singles = [side for side in sides if isinstance(side, ast.Constant) and repr(side.value) in SINGLES]
    by_is = any(isinstance(sign, (ast.Is, ast.IsNot)) for sign in node.ops)
    return ["L20 is"] if by_is and not singles else []


def faults_of_method(name, known):
    # Methods of the package's other files are not seen here; Python's own that are not let are.
    pythons = {method for kind in (str, int, list, tuple, dict, set) for method in vars(kind)}
    return ["L25 method"] if name in pythons and name not in known else []
