"""Finds code of the package that breaks a rule of LANGUAGE.md, as far as the text of a file shows it."""

import ast
import builtins
import re

PACKAGE = "settingsmerge"

ERRORS = {
    "Exception", "ValueError", "TypeError", "KeyError", "IndexError", "LookupError", "ZeroDivisionError",
    "ArithmeticError", "OverflowError", "RuntimeError", "NotImplementedError", "AttributeError", "StopIteration",
}
BUILTINS = ERRORS | {
    "len", "range", "enumerate", "zip", "min", "max", "sum", "abs", "sorted", "reversed", "int", "str", "bool", "bytes",
    "list", "tuple", "dict", "set", "isinstance", "ord", "repr", "any", "all", "divmod", "NotImplemented", "iter",
    "next", "super", "property", "staticmethod", "classmethod",
}
DUNDERS = {
    "__init__", "__eq__", "__repr__", "__str__", "__len__", "__enter__", "__exit__", "__call__", "__iter__",
    "__contains__", "__lt__", "__le__", "__gt__", "__ge__", "__ne__", "__getitem__", "__setitem__", "__bool__",
}
METHODS = set(
    "append clear copy count endswith extend find get index insert isalnum isalpha isdigit islower isspace isupper items "
    "join keys ljust lower lstrip partition pop remove replace reverse rfind rjust rpartition rsplit rstrip setdefault "
    "split splitlines startswith strip update upper values zfill bit_length add discard".split()
)
NODES = (
    ast.AsyncFunctionDef, ast.AsyncFor, ast.AsyncWith, ast.Await, ast.Global, ast.Div, ast.MatMult, ast.YieldFrom,
    ast.GeneratorExp, ast.With, ast.Match, ast.AnnAssign, ast.Import, ast.Lambda, ast.NamedExpr, ast.Nonlocal,
    ast.Assert, ast.Delete,
)
PYTHON_CALLS = {"len", "range", "enumerate", "zip", "abs", "reversed", "int", "str", "bool", "list", "tuple", "dict",
                "set", "isinstance", "ord", "repr", "any", "all", "divmod"}
KEYWORDS = {"sorted": {"key", "reverse"}, "min": {"key", "default"}, "max": {"key", "default"}, "sum": {"start"},
            "enumerate": {"start"}, "zip": {"strict"}}
PASSING = {"zip", "enumerate", "reversed", "range"}
TAKING = {"list", "tuple", "dict", "sorted", "sum", "any", "all", "enumerate", "zip", "min", "max"}
SILENT = {"__eq__", "__repr__", "__str__", "__len__", "__contains__"}
CHANGING = {"append", "clear", "extend", "insert", "pop", "remove", "reverse", "setdefault", "update", "add", "discard"}
BARRED_WORDS = re.compile(
    r"\b(type|typing|typing_extensions|enum|Enum|IntEnum|StrEnum|Flag|IntFlag|Generic|Protocol|ABC|ABCMeta|namedtuple|"
    r"NamedTuple|TypedDict|TYPE_CHECKING|abstractmethod)\b|dataclass|overload|contextmanager"
)
BARRED_NAMES = set(
    "register mro elements open input version_info with_traceback add_note format format_map attrgetter breakpoint "
    "builtins compile copyright credits delattr dir eval exec exit gc getattr globals hasattr help id importlib license "
    "locals methodcaller os quit setattr vars sys chr frozenset args".split()
)
BARRED_ATTRIBUTES = set(
    "items keys values pop update append clear extend insert remove reverse setdefault sort args encode decode hex "
    "fromhex format".split()
)


def text_faults(source):
    """Sizes, characters and words: L10, L14, L17."""
    rows = source.split("\n")
    if len(rows) > 400:
        yield 1, "L10: a file of more than 400 lines"
    for number, row in enumerate(rows, 1):
        if len(row) > 120:
            yield number, "L10: a line of more than 120 characters"
        if not all(" " <= character <= "~" for character in row):
            yield number, "L14: a character that is not allowed"
        if BARRED_WORDS.search(row):
            yield number, "L17: a word that is not allowed"


def parents_of(tree):
    return {child: node for node in ast.walk(tree) for child in ast.iter_child_nodes(node)}


def bound_names(tree):
    """The names that a file binds, with their lines."""
    for node in ast.walk(tree):
        if isinstance(node, (ast.FunctionDef, ast.ClassDef)):
            yield node.name, node
        elif isinstance(node, ast.arg):
            yield node.arg, node
        elif isinstance(node, ast.Name) and not isinstance(node.ctx, ast.Load):
            yield node.id, node


def name_faults(tree):
    """L8, L12, L15, L17."""
    classes = {node.name for node in tree.body if isinstance(node, ast.ClassDef)}
    imports = {name.name for node in tree.body if isinstance(node, ast.ImportFrom) for name in node.names}
    methods = {node for each in tree.body if isinstance(each, ast.ClassDef) for node in each.body}
    for name, node in bound_names(tree):
        if name in DUNDERS and node in methods:
            continue
        if name.startswith("_") or not name.isascii():
            yield node.lineno, f"L12: the name {name}"
        if name in BARRED_NAMES:
            yield node.lineno, f"L17: the name {name}"
        if node not in methods and not isinstance(node, ast.ClassDef) and (
                name in classes or name in imports or hasattr(builtins, name)):
            yield node.lineno, f"L15: {name} means something else already"
    for node in ast.walk(tree):
        if isinstance(node, ast.Name) and hasattr(builtins, node.id) and node.id not in BUILTINS:
            yield node.lineno, f"L8: the builtin {node.id}"
        if isinstance(node, ast.Attribute) and (node.attr.startswith("_") and node.attr != "__init__"):
            yield node.lineno, f"L12: the attribute {node.attr}"


def module_faults(tree):
    """L2, L3, L10, L16."""
    for at, node in enumerate(tree.body):
        if isinstance(node, ast.ImportFrom):
            if node.level or not (node.module or "").startswith(PACKAGE + ".") or any(n.asname for n in node.names):
                yield node.lineno, "L2: an import from outside the package"
            if not all(isinstance(each, (ast.ImportFrom, ast.Expr)) for each in tree.body[:at]):
                yield node.lineno, "L2: an import that is not at the top"
        elif isinstance(node, ast.Expr):
            if at or not isinstance(node.value, ast.Constant):
                yield node.lineno, "L3: an expression at module level"
        elif not isinstance(node, (ast.FunctionDef, ast.ClassDef, ast.Assign)):
            yield node.lineno, "L3: a statement at module level"
    for node in ast.walk(tree):
        if isinstance(node, ast.FunctionDef):
            if node.end_lineno - node.lineno + 1 > 40:
                yield node.lineno, "L10: a function of more than 40 lines"
            if node.args.posonlyargs:
                yield node.lineno, "L4: a parameter by position only"


def is_set(node):
    return isinstance(node, (ast.Set, ast.SetComp)) or (
        isinstance(node, ast.Call) and isinstance(node.func, ast.Name) and node.func.id == "set")


def decorator_names(node):
    return [getattr(each, "id", getattr(each, "attr", "")) for each in node.decorator_list]


def called_name(node):
    """The name of the function that a call calls, the attribute for a method, an empty string for anything else."""
    if not isinstance(node, ast.Call):
        return ""
    return getattr(node.func, "id", getattr(node.func, "attr", ""))


def handler_faults(tree):
    """L6, L19: only errors of the package are caught so far, each by its name."""
    own = {name.name for node in tree.body if isinstance(node, ast.ImportFrom)
           and node.module == PACKAGE + ".errors" for name in node.names}
    for node in ast.walk(tree):
        if isinstance(node, ast.ExceptHandler):
            caught = node.type.elts if isinstance(node.type, ast.Tuple) else [node.type]
            if not caught or any(getattr(each, "id", "") not in own for each in caught):
                yield node.lineno, "L19: a handler of something else than an own error"


def is_simple(node):
    """Whether L6 calls an expression simple: a name, an attribute, a literal without a sign."""
    if isinstance(node, ast.Attribute):
        return is_simple(node.value)
    return isinstance(node, (ast.Name, ast.Constant))


def is_none_test(node):
    return (isinstance(node, ast.Compare) and isinstance(node.left, (ast.Name, ast.Attribute)) and len(node.ops) == 1
            and isinstance(node.ops[0], (ast.Is, ast.IsNot)) and getattr(node.comparators[0], "value", 0) is None)


def is_final(node):
    """Whether a statement may stand in a finally: an assignment of what is simple, or an `if` over None."""
    if isinstance(node, ast.If):
        return is_none_test(node.test) and all(is_final(each) for each in node.body + node.orelse)
    if not isinstance(node, ast.Assign) or len(node.targets) != 1:
        return isinstance(node, ast.Pass)
    sides = [node.targets[0], node.value]
    if all(isinstance(side, ast.Tuple) for side in sides):
        return len(sides[0].elts) == len(sides[1].elts) and all(is_simple(each) for side in sides for each in side.elts)
    return all(is_simple(side) for side in sides)


def finally_faults(tree):
    """L6: what stands in a finally, and that the names it reads are assigned before the try."""
    for function in [each for each in ast.walk(tree) if isinstance(each, ast.FunctionDef)]:
        for node in [each for each in ast.walk(function) if isinstance(each, ast.Try) and each.finalbody]:
            if not all(is_final(each) for each in node.finalbody):
                yield node.lineno, "L6: a statement in a finally"
            known = {each.arg for each in ast.walk(function.args) if isinstance(each, ast.arg)}
            known |= {each.id for each in ast.walk(function) if isinstance(each, ast.Name)
                      and isinstance(each.ctx, ast.Store) and each.lineno < node.lineno}
            read = {each.id for part in node.finalbody for each in ast.walk(part) if isinstance(each, ast.Name)}
            if read - known:
                yield node.lineno, "L6: a finally reads what is not assigned before its try"


def is_table_part(node, functions, nested):
    """Whether an expression at module level is plain: L3, L15."""
    if isinstance(node, (ast.List, ast.Dict)) and nested:
        return False
    if isinstance(node, ast.Dict):
        return all(is_plain(key) for key in node.keys) and all(is_table_part(each, functions, True) for each in node.values)
    if isinstance(node, (ast.List, ast.Tuple)):
        return all(is_table_part(each, functions, True) for each in node.elts)
    return is_plain(node) or (isinstance(node, ast.Name) and node.id in functions)


def table_faults(tree):
    """L3: values at module level are plain, and a function in a table is given a name before it is called."""
    functions = set()
    for node in tree.body:
        if isinstance(node, ast.FunctionDef):
            functions.add(node.name)
        if isinstance(node, ast.Assign) and not is_table_part(node.value, functions, False):
            yield node.lineno, "L3: a value at module level that is not plain"
    for node in ast.walk(tree):
        if isinstance(node, ast.Call) and isinstance(node.func, ast.Subscript):
            yield node.lineno, "L3: an item that is called where it stands"


def class_method_faults(tree):
    """L5: in a class method, `cls` is called or asked for something, and nothing else happens to it."""
    parents = parents_of(tree)
    for function in [each for each in ast.walk(tree) if isinstance(each, ast.FunctionDef)]:
        if "classmethod" in decorator_names(function):
            for node in [each for each in ast.walk(function) if isinstance(each, ast.Name)]:
                around = parents[node]
                called = isinstance(around, ast.Call) and around.func is node
                if node.id == function.args.args[0].arg and not called and not isinstance(around, ast.Attribute):
                    yield node.lineno, "L5: the class of a class method is passed on"


def generator_faults(tree):
    """L23: a yield is a statement in loops and `if`, without a `return` of a value; no generator is called so far."""
    generators = set()
    parents = parents_of(tree)
    for function in [each for each in ast.walk(tree) if isinstance(each, ast.FunctionDef)]:
        yields = [each for each in ast.walk(function) if isinstance(each, ast.Yield)]
        if not yields:
            continue
        generators.add(function.name)
        for node in yields:
            around = parents[node]
            if not isinstance(around, ast.Expr):
                yield node.lineno, "L23: a yield that is no statement"
            while around is not function:
                if isinstance(around, (ast.Try, ast.With)):
                    yield node.lineno, "L23: a yield under a try or a with"
                around = parents[around]
        if any(isinstance(each, ast.Return) and each.value for each in ast.walk(function)) or function.decorator_list:
            yield function.lineno, "L23: a generator that returns a value or has a decorator"
    for node in ast.walk(tree):
        if isinstance(node, (ast.Name, ast.Attribute)) and getattr(node, "id", getattr(node, "attr", "")) in generators:
            yield node.lineno, "L23: a generator is used (not so in this package so far)"


def call_faults(tree):
    """L22, L23: keywords of builtins, and what is iterated at once."""
    parents = parents_of(tree)
    for node in [each for each in ast.walk(tree) if isinstance(each, ast.Call)]:
        name = called_name(node)
        plain = isinstance(node.func, ast.Name)
        if plain and name in PYTHON_CALLS | set(KEYWORDS):
            if {each.arg for each in node.keywords} - KEYWORDS.get(name, set()):
                yield node.lineno, f"L22: keywords of {name}"
        if (plain and name in PASSING) or (not plain and name in {"items", "keys", "values"}):
            around = parents[node]
            looped = isinstance(around, (ast.For, ast.comprehension)) and around.iter is node
            if not looped and called_name(around) not in TAKING:
                yield node.lineno, f"L23: {name} is not iterated at once"


def loop_faults(tree):
    """L23: what a loop iterates over, by its very words, is not changed in it."""
    for loop in [each for each in ast.walk(tree) if isinstance(each, ast.For)]:
        over = loop.iter
        while isinstance(over, ast.Call) and isinstance(over.func, ast.Name) and over.func.id in PASSING and over.args:
            over = over.args[0]
        words = ast.unparse(over)
        for node in [inner for part in loop.body for inner in ast.walk(part)]:
            if isinstance(node, ast.Call) and isinstance(node.func, ast.Attribute) and node.func.attr in CHANGING:
                changed = ast.unparse(node.func.value)
            elif isinstance(node, ast.Subscript) and not isinstance(node.ctx, ast.Load):
                changed = ast.unparse(node.value)
            elif isinstance(node, ast.AugAssign):
                changed = ast.unparse(node.target)
            else:
                continue
            if changed == words:
                yield node.lineno, f"L23: {words} is changed while it is iterated"


def silence_faults(tree):
    """L5, L28: operators, properties and their kin assign nothing but new lists, and change nothing."""
    for node in [each for each in ast.walk(tree) if isinstance(each, ast.FunctionDef)]:
        if node.name not in SILENT and "property" not in decorator_names(node):
            continue
        for inner in ast.walk(node):
            if isinstance(inner, ast.Assign) and not (
                    isinstance(inner.value, (ast.List, ast.ListComp))
                    and all(isinstance(target, ast.Name) for target in inner.targets)):
                yield inner.lineno, f"L28: an assignment in {node.name}"
            if isinstance(inner, ast.AugAssign) or (isinstance(inner, ast.Attribute) and inner.attr in CHANGING):
                yield inner.lineno, f"L28: a change in {node.name}"
        if not isinstance(node.body[-1], ast.Return):
            yield node.lineno, f"L28: {node.name} does not end with a return"


def is_plain(node):
    if isinstance(node, ast.UnaryOp) and isinstance(node.op, ast.USub):
        return is_plain(node.operand)
    return isinstance(node, ast.Constant) or (isinstance(node, ast.Tuple) and all(map(is_plain, node.elts)))


def signature_faults(tree):
    """L4, L5, L15: default values, decorators, names that are bound once."""
    methods = {node for each in tree.body if isinstance(each, ast.ClassDef) for node in each.body}
    for node in [each for each in ast.walk(tree) if isinstance(each, ast.FunctionDef)]:
        defaults = node.args.defaults + [each for each in node.args.kw_defaults if each is not None]
        if not all(is_plain(each) for each in defaults):
            yield node.lineno, "L4: a default value that is not plain"
        if set(decorator_names(node)) - {"property", "setter", "staticmethod", "classmethod"}:
            yield node.lineno, "L4: a decorator"
        if node.decorator_list and (node not in methods or len(node.decorator_list) > 1):
            yield node.lineno, "L5: a decorator outside of a class, or two"
        if node not in methods and node.col_offset:
            yield node.lineno, "L4: a nested function (not used in this package so far)"
    for body in [tree.body] + [each.body for each in tree.body if isinstance(each, ast.ClassDef)]:
        bound = [each.name for each in body if isinstance(each, (ast.FunctionDef, ast.ClassDef))
                 and "setter" not in decorator_names(each)]
        bound += [name.id for each in body if isinstance(each, ast.Assign) for name in each.targets]
        bound += [name.name for each in body if isinstance(each, ast.ImportFrom) for name in each.names]
        if len(bound) != len(set(bound)):
            yield 1, "L15, L18: a name that is bound twice"


def expression_faults(tree):
    """L6, L7, L19, L20, L24, L27."""
    parents = parents_of(tree)
    for node in ast.walk(tree):
        if isinstance(node, NODES):
            yield getattr(node, "lineno", 0), f"L6, L7: {node.__class__.__name__} (not used in this package so far)"
        if isinstance(node, ast.Constant):
            if isinstance(node.value, str) and "%" in node.value:
                yield node.lineno, "L27: a percent sign in a string"
            if isinstance(node.value, (float, complex)):
                yield node.lineno, "L7: a float"
        if isinstance(node, ast.Compare):
            for sign, side in zip(node.ops, node.comparators):
                if isinstance(sign, (ast.Is, ast.IsNot)) and not (
                        isinstance(side, ast.Constant) and side.value in (None, True, False)):
                    yield node.lineno, "L20: is"
        if isinstance(node, ast.Raise) and not (
                isinstance(node.exc, ast.Call) and isinstance(node.exc.func, ast.Name)):
            yield node.lineno, "L19: an error that is not created on the spot"
        if is_set(node):
            around = parents[node]
            direct = isinstance(around, ast.Call) and getattr(around.func, "id", "") in ("sorted", "len")
            if not (direct and not around.keywords):
                yield node.lineno, "L24: a set (outside of sorted and len not used in this package so far)"


def class_faults(tree):
    """L5, L26, L28."""
    for each in [node for node in ast.walk(tree) if isinstance(node, ast.ClassDef)]:
        for node in each.body:
            if not isinstance(node, (ast.FunctionDef, ast.Assign)) and not (
                    isinstance(node, ast.Expr) and isinstance(node.value, ast.Constant)):
                yield node.lineno, "L5: a statement in a class"
            if isinstance(node, ast.FunctionDef) and node.name.startswith("__"):
                if node.name not in DUNDERS:
                    yield node.lineno, f"L5: {node.name}"
                shapes = {"__len__": ("len",), "__str__": ("str", "join"), "__repr__": ("str", "repr", "join")}
                for inner in ast.walk(node):
                    if isinstance(inner, ast.Return) and node.name in shapes:
                        call = getattr(inner.value, "func", None)
                        if getattr(call, "id", getattr(call, "attr", "")) not in shapes[node.name] and not (
                                isinstance(inner.value, (ast.Constant, ast.JoinedStr))):
                            yield inner.lineno, f"L28: what {node.name} returns"


def faults(source):
    """The tuples (line, fault) of one file."""
    tree = ast.parse(source)
    parts = [name_faults, module_faults, expression_faults, class_faults, handler_faults, finally_faults, table_faults,
             class_method_faults, generator_faults, call_faults, loop_faults, silence_faults, signature_faults]
    return sorted(set(text_faults(source)) | {fault for part in parts for fault in part(tree)})


def owned(trees):
    """The names of the methods, the static and class methods, the properties, the attributes and the class values."""
    methods, static, properties, attributes, values = set(), set(), set(), set(), set()
    for tree in trees:
        for each in [node for node in ast.walk(tree) if isinstance(node, ast.ClassDef)]:
            for node in each.body:
                if isinstance(node, ast.FunctionDef):
                    names = decorator_names(node)
                    kind = properties if "property" in names or "setter" in names else static if names else methods
                    kind.add(node.name)
                elif isinstance(node, ast.Assign):
                    values.update(target.id for target in node.targets)
        for node in ast.walk(tree):
            if isinstance(node, ast.Attribute) and isinstance(node.ctx, ast.Store):
                attributes.add(node.attr)
    return methods, static, properties, attributes, values


def twice_faults(trees):
    """L5, L18: a name that is of two kinds."""
    kinds = list(zip(["method", "static method", "property", "attribute", "class value"], owned(trees)))
    for at, (kind, names) in enumerate(kinds):
        for other, others in kinds[at + 1:]:
            for name in sorted(names & others):
                yield f"L5, L18: {name} is a {kind} and a {other}"


def cycle_faults(trees):
    """L16: files that import from each other. The trees are a dict from the names of the files."""
    needed = {name: {node.module.split(".")[-1] for node in tree.body if isinstance(node, ast.ImportFrom)}
              for name, tree in trees.items()}
    while needed:
        free = [name for name in needed if not needed[name] & set(needed)]
        if not free:
            yield f"L16: {sorted(needed)} import from each other"
            return
        for name in free:
            del needed[name]


def shared_faults(sources):
    """What only all files together show: L5, L16, L18, L25, L26. The sources are a dict from the names of the files."""
    named = {name: ast.parse(source) for name, source in sources.items()}
    trees = list(named.values())
    methods, static, properties, attributes, values = owned(trees)
    found = list(twice_faults(trees)) + list(cycle_faults(named))
    found += [f"L26: the attribute {name}" for name in sorted(attributes & BARRED_ATTRIBUTES)]
    found += [f"L5: the property {name}" for name in sorted(properties & METHODS)]
    for tree in trees:
        parents = parents_of(tree)
        for node in ast.walk(tree):
            if isinstance(node, ast.Attribute) and isinstance(node.ctx, ast.Load):
                called = isinstance(parents[node], ast.Call) and parents[node].func is node
                if called and node.attr not in methods | static | METHODS:
                    found.append(f"L25: the method {node.attr}, line {node.lineno}")
                if not called and node.attr not in properties | attributes | values | {"setter"}:
                    found.append(f"L18: the attribute {node.attr} is not assigned, line {node.lineno}")
    return found
