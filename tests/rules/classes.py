"""Classes: L4, L5, L18, L26, L28."""

import ast

from rules.source import ERRORS, FUNCTIONS, bound_names, decorators, is_dunder, is_text

PLAIN = ("__init__", "__eq__", "__repr__", "__str__", "__len__", "__call__")
OPERATORS = (
    "__lt__", "__le__", "__gt__", "__ge__", "__ne__", "__add__", "__sub__", "__mul__", "__floordiv__", "__mod__",
    "__pow__", "__and__", "__or__", "__xor__", "__lshift__", "__rshift__", "__neg__", "__pos__", "__invert__",
    "__abs__", "__bool__", "__contains__",
)
VALUES = (str, int, list, dict, set, bytes)
METHODS_ALSO = (
    "append", "clear", "copy", "count", "endswith", "extend", "find", "get", "index", "insert", "isalnum", "isalpha",
    "isdigit", "islower", "isspace", "isupper", "items", "join", "keys", "ljust", "lower", "lstrip", "partition",
    "pop", "remove", "replace", "reverse", "rfind", "rjust", "rpartition", "rsplit", "rstrip", "setdefault", "split",
    "splitlines", "startswith", "strip", "update", "upper", "values", "zfill", "bit_length", "add", "discard",
)
ATTRIBUTES_ALSO = ("count", "index", "title", "find", "get", "join", "lower", "upper", "split", "strip", "copy", "add")
ATTRIBUTES_NEVER = ("items", "keys", "values", "pop", "update", "append", "clear", "extend", "insert", "remove",
                    "reverse", "setdefault", "sort", "args", "encode", "decode", "hex", "fromhex", "format")
DECORATORS = ("property", "staticmethod", "classmethod")


def check(package):
    """The faults of all classes and their methods."""
    for file in package.files:
        for node in file.of(ast.ClassDef):
            if file.parent(node) is not file.tree:
                yield file.fault("L15", node, "a class that is not at module level")
            yield from _head(package, file, node)
            yield from _body(package, file, node)
            yield from _twice(file, node)
            yield from _names(package, file, node)
            yield from _words_of_one_meaning(package, file, node)
        for node in file.of(*FUNCTIONS):
            yield from _function(file, node)
        yield from _uses(package, file)
        yield from _supers(package, file)


def _head(package, file, node):
    names = [base.id for base in node.bases if isinstance(base, ast.Name)]
    if node.decorator_list or node.keywords or len(names) != len(node.bases) or len(names) > 1:
        yield file.fault("L5", node, "a class with a decorator, a keyword or several bases")
    for name in names:
        if name in ("StopIteration", "AttributeError"):
            yield file.fault("L18", node, f"an error class below {name}")
        elif name not in package.classes and name not in ERRORS:
            yield file.fault("L5", node, f"a class below {name}")


def _body(package, file, node):
    error = package.is_error(node.name)
    for at, row in enumerate(node.body):
        if isinstance(row, ast.FunctionDef):
            if error and row.name != "__init__":
                yield file.fault("L5", row, "an error class with more than a constructor")
        elif isinstance(row, ast.Assign):
            if error or len(row.targets) != 1 or not isinstance(row.targets[0], ast.Name):
                yield file.fault("L5", row, "a class value in an error class, or of several names")
            if not _is_class_value(row.value):
                yield file.fault("L5", row, "a class value that is not plain")
        elif not (isinstance(row, ast.Pass) or (at == 0 and is_text(row))):
            yield file.fault("L5", row, "a statement in the body of a class")


def _is_class_value(value):
    if isinstance(value, ast.UnaryOp):
        return isinstance(value.op, ast.USub) and isinstance(value.operand, ast.Constant)
    if isinstance(value, ast.Tuple):
        return all(_is_class_value(part) for part in value.elts)
    return isinstance(value, ast.Constant) and not isinstance(value.value, float)


def _twice(file, node):
    found = {}
    for row in node.body:
        if not isinstance(row, ast.FunctionDef):
            continue
        setter = any(isinstance(word, ast.Attribute) and word.attr == "setter" for word in row.decorator_list)
        if row.name in found and not setter:
            yield file.fault("L18", row, f"the method {row.name} is defined twice")
        found[row.name] = row


def _names(package, file, node):
    family = {node.name} | set(package.bases(node.name))
    methods = {row.name for name in family if name in package.classes
               for row in package.classes[name].body if isinstance(row, ast.FunctionDef)}
    properties = package.properties()
    kept = package.attributes_by_class()
    attributes = {word for name in family for word in kept.get(name, ())}
    for word in sorted((methods & attributes) - properties):
        yield file.fault("L18", node, f"{word} is a method and an attribute")
    for word in sorted(kept[node.name] - properties):
        if word in ATTRIBUTES_NEVER or (word not in ATTRIBUTES_ALSO and _is_of_values(word)):
            yield file.fault("L26", node, f"the attribute {word} is one of Python's own values")
    for row in node.body:
        if isinstance(row, ast.FunctionDef) and not is_dunder(row.name):
            if row.name not in METHODS_ALSO and _is_of_values(row.name):
                yield file.fault("L26", row, f"the method {row.name} is one of Python's own values")


def _words_of_one_meaning(package, file, node):
    """Class values, properties, static and class methods have names that mean nothing else in any class."""
    for row in node.body:
        if isinstance(row, ast.Assign):
            for word in bound_names(row):
                if word in package.methods or word in package.attributes or word in package.classes:
                    yield file.fault("L5", row, f"the class value {word} is something else, too")
        elif isinstance(row, ast.FunctionDef) and not is_dunder(row.name):
            kinds = {_kind(method) for method in package.methods[row.name]}
            if len(kinds) > 1 or (_kind(row) != "method" and row.name in METHODS_ALSO):
                yield file.fault("L5", row, f"the name {row.name} means several things")
            # The rules allow this under conditions, which the package does without.
            if row.name in package.attributes:
                yield file.fault("L18", row, f"{row.name} is a method and an attribute")


def _kind(method):
    """What a method is: a property (with its setter), a static or class method, or a plain method."""
    if any(isinstance(word, ast.Attribute) and word.attr == "setter" for word in method.decorator_list):
        return "property"
    return "".join(decorators(method)) or "method"


def _supers(package, file):
    """super() calls the constructor above, and passes arguments only to one that the package defines."""
    for node in file.of(ast.Call):
        if not (isinstance(node.func, ast.Name) and node.func.id == "super"):
            continue
        outer, function = file.parent(node), file.function_of(node)
        home = file.class_of(function) if function is not None else None
        call = file.parent(outer)
        if home is None or function.name != "__init__" or getattr(outer, "attr", None) != "__init__":
            yield file.fault("L5", node, "super() that does not stand as super().__init__(..) in an __init__")
        elif call.args or call.keywords:
            above = [row.name for base in package.bases(home.name) if base in package.classes
                     for row in package.classes[base].body if isinstance(row, ast.FunctionDef)]
            if "__init__" not in above:
                yield file.fault("L5", node, "super().__init__ with arguments, but no class above has one")


def _is_of_values(word):
    # 3.12 gave int this method, and the rule names it for both Pythons.
    return word == "is_integer" or any(hasattr(kind, word) for kind in VALUES)


def _function(file, node):
    method = file.class_of(node) is not None
    for word in node.decorator_list:
        setter = isinstance(word, ast.Attribute) and word.attr == "setter"
        plain = isinstance(word, ast.Name) and word.id in DECORATORS
        if not method or not (setter or plain) or len(node.decorator_list) > 1:
            yield file.fault("L4", node, f"a decorator over {node.name}")
    if "property" in decorators(node) and any(_is_stored(inner) for inner in ast.walk(node)):
        yield file.fault("L5", node, f"the property {node.name} changes something")
    if is_dunder(node.name):
        if not method:
            yield file.fault("L28", node, f"{node.name} outside of a class")
        elif node.name not in PLAIN + OPERATORS:
            yield file.fault("L5", node, f"the method {node.name}")
        elif node.decorator_list:
            yield file.fault("L5", node, f"a decorator over {node.name}")
        yield from _double(file, node)


def _is_stored(node):
    return isinstance(node, (ast.Attribute, ast.Subscript)) and not isinstance(node.ctx, ast.Load)


def _double(file, node):
    inside = list(ast.walk(node))
    if node.name == "__init__" and any(isinstance(inner, ast.Return) for inner in inside):
        yield file.fault("L28", node, "__init__ returns")
    if node.name in ("__len__", "__str__", "__repr__") and not isinstance(node.body[-1], ast.Return):
        yield file.fault("L28", node, f"{node.name} does not end with a return")
    if node.name not in ("__init__", "__call__"):
        for inner in inside:
            if _is_stored(inner) or isinstance(inner, (ast.Yield, ast.YieldFrom, ast.Delete, ast.Nonlocal)):
                yield file.fault("L28", node, f"{node.name} changes something or yields")
    stars = node.args.vararg or node.args.kwarg or node.args.kwonlyargs or node.args.posonlyargs
    if node.name in OPERATORS and (stars or node.args.defaults):
        yield file.fault("L5", node, f"{node.name} with other parameters")


def _uses(package, file):
    """Classes are called, asked, caught and raised; they are no values (L18)."""
    for node in file.of(ast.Name):
        own = node.id in package.classes or node.id in ERRORS
        if own and isinstance(node.ctx, ast.Load) and not _is_class_use(file, node):
            yield file.fault("L18", node, f"the class {node.id} as a value")
    for node in file.of(ast.Attribute):
        if node.attr.startswith("__") and not _is_double_use(file, node):
            yield file.fault("L8", node, f"the name {node.attr}")
        target = node.value.id if isinstance(node.value, ast.Name) else None
        if not isinstance(node.ctx, ast.Load) and (target is None or target in package.classes):
            yield file.fault("L18", node, "an attribute that is assigned through no local name")


def _is_class_use(file, node):
    parent = file.parent(node)
    outer = file.parent(parent) if isinstance(parent, ast.Tuple) else parent
    if isinstance(outer, ast.ExceptHandler):
        return True
    if isinstance(outer, ast.Call) and isinstance(outer.func, ast.Name) and outer.func.id == "isinstance":
        return len(outer.args) == 2 and outer.args[1] in (node, parent)
    if isinstance(parent, ast.Raise):
        return parent.cause is node and node.id in ERRORS
    if isinstance(parent, ast.ClassDef):
        return node in parent.bases
    return (isinstance(parent, ast.Call) and parent.func is node) or isinstance(parent, ast.Attribute)


def _is_double_use(file, node):
    if node.attr == "__init__":
        function = file.function_of(node)
        parent = file.parent(node)
        return (isinstance(function, ast.FunctionDef) and function.name == "__init__"
                and isinstance(parent, ast.Call) and parent.func is node)
    if node.attr == "__name__":
        return isinstance(node.value, ast.Attribute) and node.value.attr == "__class__"
    return node.attr == "__class__" and getattr(file.parent(node), "attr", None) == "__name__"
