"""Looks through Python sources for what the rules L1 to L28 bar, as far as it's easily seen.

Stricter than the rules here and there, never laxer on what it looks at: each check names its rule.
"""

import ast
import re

PACKAGE = "brookworks"

LIBRARY = {
    "heapq": ("heappush", "heappop", "heapify", "heapreplace", "heappushpop"),
    "math": ("gcd", "lcm", "isqrt", "comb", "perm", "factorial"),
    "itertools": (
        "product", "combinations", "permutations", "chain", "accumulate", "pairwise", "islice",
        "zip_longest",
    ),
    "collections": ("defaultdict", "deque"),
    "__future__": ("annotations",),
}

BUILTINS = set(
    "len range enumerate zip min max sum abs sorted reversed int str bool list tuple dict set "
    "isinstance ord repr any all divmod pow getattr hasattr setattr map iter next super property "
    "staticmethod classmethod type Exception ValueError TypeError KeyError IndexError LookupError "
    "ZeroDivisionError ArithmeticError OverflowError RuntimeError NotImplementedError "
    "AttributeError StopIteration NotImplemented object".split()
)

ALL_BUILTINS = set(dir(__builtins__) if not isinstance(__builtins__, dict) else __builtins__)

METHODS = set(
    "append clear copy count endswith extend find get index insert isalnum isalpha isdigit islower "
    "isspace isupper items join keys ljust lower lstrip partition pop remove replace reverse rfind "
    "rjust rpartition rsplit rstrip setdefault split splitlines startswith strip update upper "
    "values zfill bit_length capitalize swapcase casefold expandtabs removeprefix removesuffix "
    "rindex isascii isdecimal isnumeric istitle isidentifier isprintable sort add discard".split()
)

BARRED_ATTRIBUTES = set(
    "items keys values pop update append clear extend insert remove reverse setdefault sort args "
    "encode decode hex fromhex format format_map mro as_integer_ratio bit_count conjugate "
    "from_bytes is_integer to_bytes".split()
)

BARRED_NAMES = set(
    "register mro elements open input law version_info with_traceback add_note attrgetter "
    "breakpoint builtins compile copyright credits delattr dir eval exec exit gc globals help id "
    "importlib license locals methodcaller os quit vars sys".split()
)

BARRED_WORDS = (
    "typing|typing_extensions|enum|Enum|IntEnum|StrEnum|Flag|IntFlag|Generic|Protocol|ABC|ABCMeta|"
    "namedtuple|NamedTuple|TypedDict|TYPE_CHECKING|abstractmethod"
)

DUNDERS = set(
    "__init__ __eq__ __repr__ __str__ __len__ __enter__ __exit__ __call__ __iter__ __lt__ __le__ "
    "__gt__ __ge__ __ne__ __add__ __sub__ __mul__ __floordiv__ __mod__ __neg__ __bool__ "
    "__contains__ __getitem__ __setitem__".split()
)

STATEMENTS = (
    ast.Assign, ast.AnnAssign, ast.AugAssign, ast.If, ast.While, ast.For, ast.Return, ast.Break,
    ast.Continue, ast.Pass, ast.Raise, ast.Assert, ast.Delete, ast.Nonlocal, ast.Match, ast.With,
    ast.Try, ast.Expr, ast.FunctionDef, ast.ClassDef, ast.ImportFrom,
)

TAKE_GENERATORS = ("list", "tuple", "dict", "join")

CAUGHT = ("KeyError", "ZeroDivisionError", "ValueError", "LookupError", "IndexError")


def file_faults(name, text):
    """L1, L10, L14, L27: names of files, their signs and their length."""
    faults = []
    if not re.fullmatch(r"[a-z_][a-z0-9_]*\.py", name):
        faults.append("L14: a name of a file")
    if re.match(r"(law_|test|site|conftest|sitecustomize|usercustomize)", name):
        faults.append("L14: a barred name of a file")
    if name[:-3] in ALL_BUILTINS or name[:-3] in ("math", "heapq", "itertools", "collections"):
        faults.append("L14: a file called like a builtin or a library")
    lines = text.split("\n")
    if len(lines) - 1 > 399:
        faults.append("L10: more than 399 lines")
    for number, line in enumerate(lines, start=1):
        if len(line) > 120:
            faults.append(f"L10: line {number} is too long")
        if not all(" " <= sign <= "~" for sign in line):
            faults.append(f"L14: line {number} has another sign")
    if re.search(r"\\[^nt\\'\"\n]", text):
        faults.append("L27: an escape")
    for word in ("_wall", "_WallAttr", "dataclass", "overload", "contextmanager"):
        if word in text:
            faults.append(f"L12, L17: {word}")
    return faults


def bound_names(node):
    """The names that a node binds, but for attributes and items."""
    if isinstance(node, ast.Name) and isinstance(node.ctx, (ast.Store, ast.Del)):
        return [node.id]
    if isinstance(node, ast.arg):
        return [node.arg]
    if isinstance(node, (ast.FunctionDef, ast.ClassDef)):
        return [node.name]
    if isinstance(node, ast.alias):
        return [node.asname or node.name]
    if isinstance(node, ast.ExceptHandler) and node.name:
        return [node.name]
    return []


def name_faults(node, methods):
    """L8, L12, L15, L17, L26: the names that a node binds or assigns to."""
    faults = []
    for name in bound_names(node):
        dunder = name in methods and name in DUNDERS
        if not re.fullmatch(r"_|_?[A-Za-z][A-Za-z0-9_]*", name) and not dunder:
            faults.append(f"L12: the name {name}")
        if name in BARRED_NAMES or (name in ALL_BUILTINS and name not in methods):
            faults.append(f"L15, L17: the name {name}")
    if isinstance(node, ast.Name) and isinstance(node.ctx, ast.Load):
        if node.id in ALL_BUILTINS and node.id not in BUILTINS:
            faults.append(f"L8: the builtin {node.id}")
        if node.id == "_":
            faults.append("L12: _ is read")
    if isinstance(node, ast.Attribute) and isinstance(node.ctx, ast.Store):
        if node.attr in BARRED_ATTRIBUTES:
            faults.append(f"L26: the attribute {node.attr}")
    if isinstance(node, ast.FunctionDef) and node.name in methods and node.name.startswith("__"):
        if node.name not in DUNDERS:
            faults.append(f"L5: the method {node.name}")
    return faults


def value_faults(node, docstrings):
    """L7, L27: literals and signs of expressions."""
    faults = []
    if isinstance(node, ast.Constant):
        if isinstance(node.value, (float, complex, bytes)):
            faults.append("L7: a float, a complex number, or bytes")
        if isinstance(node.value, str) and id(node) not in docstrings:
            faults.extend(string_faults(node.value))
    if isinstance(node, (ast.Div, ast.MatMult)):
        faults.append("L7: / or @")
    if isinstance(node, ast.BinOp) and isinstance(node.op, ast.Pow):
        power = node.right
        if not isinstance(power, ast.Constant) or power.value not in range(65):
            faults.append("L27: an exponent that isn't plain")
    if isinstance(node, (ast.Await, ast.Yield, ast.YieldFrom, ast.NamedExpr, ast.Set)):
        faults.append("a generator, := or a literal set: only by its own rules, not checked here")
    if isinstance(node, ast.Compare):
        faults.extend(compare_faults(node))
    return faults


def string_faults(text):
    faults = []
    if "%" in text:
        faults.append("L27: the percent sign in a string")
    if any(not (" " <= sign <= "~" or sign in "\n\t") for sign in text):
        faults.append("L27: another sign in a string")
    if re.search(rf"\b({BARRED_WORDS})\b", text):
        faults.append("L17: a barred word in a string")
    if re.fullmatch(r"__.*__", text, re.DOTALL) or text.endswith(("._", ".__")):
        faults.append("L27: underscores in a string")
    return faults


def compare_faults(node):
    faults = []
    sides = [node.left, *node.comparators]
    for at, sign in enumerate(node.ops):
        if isinstance(sign, (ast.Is, ast.IsNot)) and not is_let_is(sides[at], sides[at + 1]):
            faults.append("L20: is")
    return faults


def is_let_is(one, other):
    if isinstance(other, ast.Constant) and other.value in (None, True, False):
        return True
    return isinstance(one, ast.Call) and getattr(one.func, "id", "") == "type"


def call_faults(node, known):
    """L8, L22, L25: calls of builtins and of methods."""
    faults = []
    if isinstance(node.func, ast.Attribute):
        if node.func.attr not in METHODS and node.func.attr not in known:
            faults.append(f"L25: the method {node.func.attr}")
        if node.func.attr in METHODS - known and node.keywords:
            faults.append(f"L25: a keyword of {node.func.attr}")
    elif isinstance(node.func, ast.Constant):
        faults.append("L7: a literal is called")
    let = {"sorted": ("key", "reverse"), "min": ("key", "default"), "max": ("key", "default"),
           "sum": ("start",), "enumerate": ("start",), "zip": ("strict",)}
    name = getattr(node.func, "id", "")
    for word in node.keywords:
        if name in BUILTINS and word.arg not in let.get(name, ()):
            faults.append(f"L22: a keyword of {name}")
    return faults


def statement_faults(node):
    """L4, L6, L10, L19: statements."""
    faults = []
    if isinstance(node, ast.stmt) and not isinstance(node, STATEMENTS):
        faults.append(f"L6: {type(node).__name__}")
    if isinstance(node, ast.FunctionDef):
        if node.end_lineno - node.lineno + 1 > 40:
            faults.append(f"L10: {node.name} has more than 40 lines")
        if node.decorator_list:
            faults.append(f"L4: a decorator of {node.name} (only by L5, not checked here)")
        for value in node.args.defaults + node.args.kw_defaults:
            if isinstance(value, (ast.List, ast.Dict, ast.Set, ast.Call, ast.Lambda)):
                faults.append(f"L4: a default value of {node.name}")
    if isinstance(node, ast.ExceptHandler):
        caught = node.type.elts if isinstance(node.type, ast.Tuple) else [node.type]
        for kind in caught:
            name = getattr(kind, "id", None)
            if name is None or (name in ALL_BUILTINS and name not in CAUGHT):
                faults.append("L19: what is caught")
    if isinstance(node, ast.Raise) and node.exc is not None and not isinstance(node.exc, ast.Call):
        faults.append("L19: what is raised")
    return faults


def is_plain(node):
    """L3: whether it's a plain value."""
    if isinstance(node, (ast.Tuple, ast.List)):
        return all(is_plain(item) for item in node.elts)
    if isinstance(node, ast.Dict):
        return all(key is not None and is_plain(key) for key in node.keys) and all(
            is_plain(value) for value in node.values)
    if isinstance(node, ast.BinOp):
        return is_plain(node.left) and is_plain(node.right)
    if isinstance(node, ast.UnaryOp):
        return is_plain(node.operand)
    return isinstance(node, (ast.Constant, ast.Name))


def holds_lists(node):
    return any(isinstance(inner, (ast.List, ast.Dict)) for inner in ast.walk(node) if inner is not node)


def module_faults(tree):
    """L2, L3, L15: what stands at module level."""
    faults = []
    bound = []
    begun = False
    for at, node in enumerate(tree.body):
        if isinstance(node, ast.ImportFrom):
            if begun:
                faults.append("L2: an import that isn't at the top")
        elif isinstance(node, (ast.FunctionDef, ast.ClassDef)):
            begun = True
        elif isinstance(node, ast.Assign):
            begun = True
            if len(node.targets) != 1 or not isinstance(node.targets[0], ast.Name):
                faults.append("L3: more than one target at module level")
            if not is_plain(node.value) or holds_lists(node.value):
                faults.append("L3, L15: what is assigned at module level")
        elif not (at == 0 and is_docstring(node)):
            faults.append(f"L3: {type(node).__name__} at module level")
        for inner in [node, *getattr(node, "names", []), *getattr(node, "targets", [])]:
            bound.extend(bound_names(inner))
    faults.extend(f"L15: {name} is bound twice" for name in set(bound) if bound.count(name) > 1)
    return faults


def is_docstring(node):
    return isinstance(node, ast.Expr) and isinstance(node.value, ast.Constant) and isinstance(
        node.value.value, str)


def import_faults(tree, defined):
    """L2, L16: imports; defined is a dict from modules of the package to what each defines."""
    faults = []
    for node in ast.walk(tree):
        if not isinstance(node, (ast.Import, ast.ImportFrom)):
            continue
        if isinstance(node, ast.Import) or node.level:
            faults.append("L2, L16: an import that isn't from a full name")
            continue
        for alias in node.names:
            let = LIBRARY.get(node.module, defined.get(node.module, ()))
            if alias.name not in let or (node.module in LIBRARY and alias.asname):
                faults.append(f"L2, L16: {alias.name} from {node.module}")
    return faults


def scope_faults(tree):
    """L7, L15: comprehensions, generator expressions, names that hide imports and classes."""
    faults = []
    tops = [node for node in tree.body if isinstance(node, (ast.ImportFrom, ast.ClassDef))]
    hidden = set()
    for node in tops:
        names = node.names if isinstance(node, ast.ImportFrom) else [node]
        hidden.update(name for inner in names for name in bound_names(inner))
    let = set()
    for node in ast.walk(tree):
        if isinstance(node, ast.Call):
            name = getattr(node.func, "id", getattr(node.func, "attr", ""))
            if name in TAKE_GENERATORS:
                let.update(id(thing) for thing in node.args)
    for top in tree.body:
        for node in ast.walk(top):
            if isinstance(node, ast.GeneratorExp) and id(node) not in let:
                faults.append("L7: a generator expression")
            if isinstance(node, (ast.ListComp, ast.DictComp, ast.SetComp)):
                if not isinstance(top, (ast.FunctionDef, ast.ClassDef)):
                    faults.append("L7: a comprehension outside of functions")
            if node is not top and isinstance(node, (ast.arg, ast.Name, ast.FunctionDef)):
                if any(name in hidden for name in bound_names(node)):
                    faults.append(f"L15: {bound_names(node)} hides a class or an import")
    return faults


def set_faults(tree):
    """L24: sets that aren't stored stand in len, in sorted, behind in, or beside ==."""
    let = set()
    for node in ast.walk(tree):
        if isinstance(node, ast.Call) and getattr(node.func, "id", "") in ("len", "sorted"):
            let.update(id(thing) for thing in node.args)
        if isinstance(node, ast.Compare):
            let.update(id(thing) for thing in [node.left, *node.comparators])
        if isinstance(node, ast.Assign) and isinstance(node.targets[0], ast.Name):
            let.add(id(node.value))
    faults = []
    for node in ast.walk(tree):
        made = isinstance(node, ast.Call) and getattr(node.func, "id", "") == "set"
        if (made or isinstance(node, ast.SetComp)) and id(node) not in let:
            faults.append("L24: a set")
    return faults


def docstrings_of(tree):
    found = set()
    for node in ast.walk(tree):
        if isinstance(node, (ast.Module, ast.ClassDef, ast.FunctionDef)) and node.body:
            if is_docstring(node.body[0]):
                found.add(id(node.body[0].value))
    return found


def methods_of(tree):
    return {
        inner.name
        for node in ast.walk(tree) if isinstance(node, ast.ClassDef)
        for inner in node.body if isinstance(inner, ast.FunctionDef)
    }


def defined_in(tree):
    """What a module defines, as others may import it."""
    names = []
    for node in tree.body:
        for inner in [node, *getattr(node, "targets", [])]:
            names.extend(bound_names(inner))
    return names


def ring_faults(trees):
    """L16: files that import one another, round and round."""
    left = {
        module: {node.module for node in ast.walk(tree)
                 if isinstance(node, ast.ImportFrom) and node.module in trees}
        for module, tree in trees.items()
    }
    while left:
        free = [module for module in left if not left[module] & set(left)]
        if not free:
            return [f"L16: {sorted(left)} import one another"]
        for module in free:
            del left[module]
    return []


def tree_faults(tree, trees):
    defined = {module: defined_in(other) for module, other in trees.items()}
    known = set().union(*[methods_of(other) for other in trees.values()]) | {"__init__"}
    methods = methods_of(tree)
    docstrings = docstrings_of(tree)
    faults = module_faults(tree) + import_faults(tree, defined) + scope_faults(tree)
    faults += set_faults(tree)
    for node in ast.walk(tree):
        found = name_faults(node, methods) + value_faults(node, docstrings) + statement_faults(node)
        if isinstance(node, ast.Call):
            found += call_faults(node, known)
        faults.extend(f"{fault} (line {getattr(node, 'lineno', 0)})" for fault in found)
    return faults


def faults_in(sources):
    """The list of all faults in a dict from names of files to their texts."""
    trees = {f"{PACKAGE}.{name[:-3]}": ast.parse(text) for name, text in sources.items()}
    faults = ring_faults(trees)
    for name, text in sources.items():
        found = file_faults(name, text) + tree_faults(trees[f"{PACKAGE}.{name[:-3]}"], trees)
        faults.extend(f"{name}: {fault}" for fault in found)
    return faults
