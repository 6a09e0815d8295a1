"""A reading of the package's own files for the rules of LANGUAGE.md that can be seen in the text.

Each check yields tuples (rule, line). What asks for an understanding of the
program is left to the reader: L13, L26 and L28, and much of L11, L15, L18, L19,
L22 and L23.
"""

import ast
import builtins
import re

OWN_ERRORS = ("Exception ValueError TypeError KeyError IndexError LookupError ZeroDivisionError ArithmeticError "
              "OverflowError RuntimeError NotImplementedError AttributeError StopIteration").split()
ALLOWED_BUILTINS = ("len range enumerate zip min max sum abs sorted reversed int str bool list tuple dict set frozenset "
                    "isinstance ord repr any all divmod").split() + OWN_ERRORS
METHODS = ("append clear copy count endswith extend find get index insert isalnum isalpha isdigit islower isspace "
           "isupper items join keys ljust lower lstrip partition pop remove replace reverse rfind rjust rpartition "
           "rsplit rstrip setdefault split splitlines startswith strip update upper values zfill bit_length").split()
DUNDERS = "__init__ __eq__ __repr__ __str__ __len__".split()
NOWHERE = "register mro elements open input version_info with_traceback add_note".split()
NOT_AS_NAMES = ("attrgetter breakpoint builtins compile copyright credits delattr dir eval exec exit gc getattr globals "
                "hasattr help id importlib license locals methodcaller os quit setattr super type vars sys").split()
WORDS = ("type typing typing_extensions enum Enum IntEnum StrEnum Flag IntFlag Generic Protocol ABC ABCMeta namedtuple "
         "NamedTuple TypedDict TYPE_CHECKING abstractmethod").split()
WITHIN_WORDS = "dataclass overload contextmanager".split()
FILE_NAMES_OUT = "test tests testing site conftest sitecustomize usercustomize".split() + WORDS + dir(builtins)
KEYWORDS = {"sorted": ["key", "reverse"], "min": ["key", "default"], "max": ["key", "default"], "sum": ["start"],
            "enumerate": ["start"], "zip": ["strict"]}

VIEWS = "zip enumerate reversed range".split()
VIEW_METHODS = "items keys values".split()
WALKERS = "list tuple dict sorted sum any all enumerate zip".split()
CHANGES = "append clear extend insert pop remove reverse setdefault update".split()

STATEMENTS = (ast.Assign, ast.AugAssign, ast.If, ast.While, ast.For, ast.Return, ast.Break, ast.Continue, ast.Pass,
              ast.Raise, ast.Try, ast.Expr, ast.FunctionDef, ast.ClassDef, ast.ImportFrom)
EXPRESSIONS = (ast.Constant, ast.List, ast.Tuple, ast.Dict, ast.Set, ast.BinOp, ast.UnaryOp, ast.BoolOp, ast.Compare,
               ast.IfExp, ast.Call, ast.Attribute, ast.Subscript, ast.Slice, ast.ListComp, ast.JoinedStr,
               ast.FormattedValue, ast.Name, ast.Lambda)


def text_faults(text):
    for number, line in enumerate(text.split("\n"), start=1):
        if any(not " " <= sign <= "~" for sign in line):
            yield "L14", number
        if len(line) > 120:
            yield "L10", number
        words = re.findall(r"\w+", line)
        if any(word in WORDS or any(part in word for part in WITHIN_WORDS) for word in words):
            yield "L17", number
    if len(text.splitlines()) > 400:
        yield "L10", 401


def is_docstring(node):
    return isinstance(node, ast.Expr) and isinstance(node.value, ast.Constant) and isinstance(node.value.value, str)


def top_faults(tree):
    bound = []
    for place, node in enumerate(tree.body):
        if isinstance(node, (ast.FunctionDef, ast.ClassDef)):
            bound.append(node.name)
        elif isinstance(node, ast.ImportFrom):
            bound.extend(alias.asname or alias.name for alias in node.names)
            if node.level or any(alias.name == "*" for alias in node.names):
                yield "L2", node.lineno
        elif isinstance(node, ast.Assign) and isinstance(node.targets[0], ast.Name):
            bound.append(node.targets[0].id)
        elif not (place == 0 and is_docstring(node)):
            yield "L3", node.lineno
    if len(set(bound)) < len(bound):
        yield "L15", 1


def def_faults(node):
    arguments = node.args
    if arguments.vararg or arguments.kwarg or arguments.kwonlyargs or arguments.posonlyargs:
        yield "L4", node.lineno
    for argument in arguments.args:
        if argument.arg in dir(builtins):
            yield "L15", node.lineno
        if argument.annotation:
            yield "L21", node.lineno
    if isinstance(node, ast.FunctionDef):
        if node.decorator_list:
            yield "L4", node.lineno
        if node.end_lineno - node.lineno + 1 > 40:
            yield "L10", node.lineno


def class_faults(node):
    if node.decorator_list or len(node.bases) > 1 or node.keywords:
        yield "L5", node.lineno
    for inner in node.body:
        if not isinstance(inner, (ast.FunctionDef, ast.Pass)):
            yield "L5", inner.lineno


def statement_faults(node):
    if not isinstance(node, STATEMENTS):
        yield "L6", node.lineno
    if isinstance(node, ast.Expr) and not isinstance(node.value, ast.Call) and not is_docstring(node):
        yield "L6", node.lineno
    if isinstance(node, (ast.For, ast.While)) and node.orelse:
        yield "L6", node.lineno
    if isinstance(node, ast.Assign) and (len(node.targets) > 1 or isinstance(node.targets[0], (ast.Tuple, ast.List))):
        yield "L6", node.lineno
    if isinstance(node, ast.Try):
        if node.finalbody:
            yield "L6", node.lineno
        for handler in node.handlers:
            if handler.type is None or ast.unparse(handler.type) in ("Exception", "TypeError"):
                yield "L19", handler.lineno
    if isinstance(node, ast.Raise) and not isinstance(node.exc, ast.Call):
        yield "L19", node.lineno


def expression_faults(node, methods):
    if not isinstance(node, EXPRESSIONS):
        yield "L7", node.lineno
    if isinstance(node, ast.Constant) and isinstance(node.value, (float, complex, bytes)):
        yield "L7", node.lineno
    if isinstance(node, ast.Constant) and isinstance(node.value, str) and "%" in node.value:
        yield "L27", node.lineno
    if isinstance(node, ast.BinOp) and isinstance(node.op, (ast.Div, ast.MatMult)):
        yield "L7", node.lineno
    if isinstance(node, ast.BinOp) and isinstance(node.op, ast.Pow) and not isinstance(node.right, ast.Constant):
        yield "L27", node.lineno
    if isinstance(node, ast.ListComp) and (len(node.generators) > 1 or len(node.generators[0].ifs) > 1):
        yield "L7", node.lineno
    if isinstance(node, ast.FormattedValue) and not (isinstance(node.value, ast.Name) and node.format_spec is None):
        yield "L7", node.lineno
    if isinstance(node, ast.Compare) and any(isinstance(sign, (ast.Is, ast.IsNot)) for sign in node.ops):
        if not any(ast.unparse(side) in ("None", "True", "False") for side in [node.left] + node.comparators):
            yield "L20", node.lineno
    if isinstance(node, ast.Call):
        yield from call_faults(node, methods)


def call_faults(node, methods):
    if isinstance(node.func, ast.Attribute) and node.func.attr not in METHODS + DUNDERS + methods:
        yield "L25", node.lineno
    if isinstance(node.func, ast.Name) and node.func.id in ALLOWED_BUILTINS:
        if any(keyword.arg not in KEYWORDS.get(node.func.id, []) for keyword in node.keywords):
            yield "L22", node.lineno
    if any(keyword.arg is None for keyword in node.keywords):
        yield "L7", node.lineno


def name_faults(name, line):
    if name in dir(builtins) and name not in ALLOWED_BUILTINS:
        yield "L8", line
    if name in NOWHERE + NOT_AS_NAMES:
        yield "L17", line
    if name.startswith("_") and name not in DUNDERS + ["__all__", "__version__"]:
        yield "L12", line


def named(node):
    if isinstance(node, ast.Name):
        return node.id
    if isinstance(node, (ast.FunctionDef, ast.ClassDef)):
        return node.name
    if isinstance(node, ast.arg):
        return node.arg
    return None


def binding_faults(node):
    if isinstance(node, ast.Name) and isinstance(node.ctx, ast.Store) and node.id in dir(builtins):
        yield "L15", node.lineno
    if isinstance(node, ast.Attribute) and (node.attr in NOWHERE or node.attr in ("format", "format_map")):
        yield "L17", node.lineno
    if isinstance(node, ast.Attribute) and node.attr.startswith("_") and node.attr not in DUNDERS:
        yield "L12", node.lineno


def called(node):
    """The plain name that is called here, or an empty text."""
    return node.func.id if isinstance(node, ast.Call) and isinstance(node.func, ast.Name) else ""


def is_view(node):
    return called(node) in VIEWS or (
        isinstance(node, ast.Call) and isinstance(node.func, ast.Attribute) and node.func.attr in VIEW_METHODS)


def is_walked(node, parent):
    if isinstance(parent, (ast.For, ast.comprehension)):
        return parent.iter is node
    if called(parent) in WALKERS:
        return parent.args[:1] == [node]
    if called(parent) in ("min", "max"):
        return parent.args == [node]
    if not isinstance(parent, ast.Call) or not isinstance(parent.func, ast.Attribute):
        return False
    return parent.func.attr == "join" and isinstance(parent.func.value, ast.Constant)


def changed_in(loop):
    for node in ast.walk(ast.Module(loop.body, [])):
        if isinstance(node, ast.Call) and isinstance(node.func, ast.Attribute) and node.func.attr in CHANGES:
            yield ast.unparse(node.func.value)
        if isinstance(node, ast.Subscript) and isinstance(node.ctx, ast.Store):
            yield ast.unparse(node.value)


def loop_faults(loop):
    inner = loop.iter
    while isinstance(inner, ast.Call):
        inner = inner.func.value if isinstance(inner.func, ast.Attribute) else (inner.args or [None])[0]
    # A copy may be walked while the thing itself is changed.
    copied = called(loop.iter) in ("list", "tuple", "sorted")
    if inner is not None and not copied and ast.unparse(inner) in changed_in(loop):
        yield "L23", loop.lineno


def is_set(node):
    if isinstance(node, ast.BinOp):
        return is_set(node.left) or is_set(node.right)
    return isinstance(node, ast.Set) or called(node) in ("set", "frozenset")


def set_may_stand(node, parent):
    if isinstance(parent, ast.BinOp):
        return True
    if isinstance(parent, ast.Compare) and len(parent.ops) == 1:
        if isinstance(parent.ops[0], (ast.In, ast.NotIn)):
            return parent.comparators == [node]
        return isinstance(parent.ops[0], (ast.Eq, ast.NotEq)) and is_set(parent.left) and is_set(parent.comparators[0])
    return called(parent) in ("sorted", "len") and parent.args == [node] and not parent.keywords


def walk_faults(tree):
    for parent in ast.walk(tree):
        if isinstance(parent, ast.For):
            yield from loop_faults(parent)
        for node in ast.iter_child_nodes(parent):
            if is_view(node) and not is_walked(node, parent):
                yield "L23", node.lineno
            if is_set(node) and not set_may_stand(node, parent):
                yield "L24", node.lineno


def shadow_faults(tree):
    taken = [alias.asname or alias.name for node in tree.body if isinstance(node, ast.ImportFrom) for alias in node.names]
    taken.extend(node.name for node in tree.body if isinstance(node, ast.ClassDef))
    for node in ast.walk(tree):
        if isinstance(node, ast.arg) and node.arg in taken:
            yield "L15", node.lineno
        if isinstance(node, ast.Name) and isinstance(node.ctx, ast.Store) and node.id in taken:
            yield "L15", node.lineno


def calls_between(text):
    """For each def of a file's top, the plain names that stand in it."""
    return {node.name: [inner.id for inner in ast.walk(node) if isinstance(inner, ast.Name)]
            for node in ast.parse(text).body if isinstance(node, ast.FunctionDef)}


def faults(text):
    tree = ast.parse(text)
    methods = [inner.name for node in tree.body if isinstance(node, ast.ClassDef)
               for inner in node.body if isinstance(inner, ast.FunctionDef)]
    found = list(text_faults(text)) + list(top_faults(tree)) + list(walk_faults(tree)) + list(shadow_faults(tree))
    for node in ast.walk(tree):
        if isinstance(node, (ast.FunctionDef, ast.Lambda)):
            found.extend(def_faults(node))
        if isinstance(node, ast.ClassDef):
            found.extend(class_faults(node))
        if isinstance(node, ast.stmt):
            found.extend(statement_faults(node))
        if isinstance(node, ast.expr):
            found.extend(expression_faults(node, methods))
        if named(node) is not None:
            found.extend(name_faults(named(node), node.lineno))
        found.extend(binding_faults(node))
    return found


def drawn_from(text):
    return [node.module for node in ast.walk(ast.parse(text)) if isinstance(node, ast.ImportFrom)]
