"""Calls, methods and what is iterated: L7, L18, L22, L23, L25."""

import ast
from inspect import Parameter, Signature

from rules.classes import METHODS_ALSO
from rules.names import FREE
from rules.source import ERRORS, FUNCTIONS, called, called_method

# Python's own methods that the package does without have many conditions (sort, format, translate, those of bytes).
METHODS = [name for name in METHODS_ALSO if name not in ("add", "discard")] + [
    "title", "capitalize", "swapcase", "casefold", "center", "expandtabs", "removeprefix", "removesuffix", "rindex",
    "isascii", "isdecimal", "isnumeric", "istitle", "isidentifier", "isprintable",
]
KEYWORDS = {"sorted": ("key", "reverse"), "min": ("key", "default"), "max": ("key", "default"),
            "sum": ("start",), "enumerate": ("start",), "zip": ("strict",)}
AS_KEY = ("len", "int", "str", "abs", "sum", "min", "max", "tuple")
CLASSES = ("int", "str", "bool", "bytes", "list", "tuple", "dict")
KINDS = CLASSES + ERRORS
LAZY = ("zip", "enumerate", "reversed", "range")
VIEWS = ("items", "keys", "values")
TAKERS = ("list", "tuple", "dict", "sorted", "sum", "min", "max", "any", "all", "enumerate", "zip")
WHOLE = ("any", "all", "min", "max", "sum", "sorted")


def check(package):
    """The faults of all calls and of the names of builtins that are not called."""
    for file in package.files:
        for node in file.of(ast.Call):
            yield from _builtin(package, file, node)
            yield from _passes(package, file, node)
            yield from _method(package, file, node)
            yield from _iterated(package, file, node)
        for node in file.of(ast.Name):
            if node.id in FREE and isinstance(node.ctx, ast.Load) and not _is_used_well(file, node):
                yield file.fault("L22", node, f"{node.id} as a value")
        for node in file.of(ast.Attribute):
            yield from _attribute(package, file, node)


def _builtin(package, file, node):
    name = called(node)
    if name not in FREE:
        return
    for word in node.keywords:
        if word.arg not in KEYWORDS.get(name, ()):
            yield file.fault("L22", node, f"{name} with the keyword {word.arg}")
        elif word.arg in ("reverse", "strict") and not isinstance(word.value, ast.Constant):
            yield file.fault("L22", node, f"{word.arg} that is no literal")
        elif word.arg == "key" and not _is_key(package, word.value):
            yield file.fault("L22", node, "key= that is no function, lambda or method")
        elif word.arg == "default" and len(node.args) != 1:
            yield file.fault("L22", node, "default= beside several arguments")
    if name == "isinstance" and len(node.args) == 2:
        kinds = node.args[1].elts if isinstance(node.args[1], ast.Tuple) else [node.args[1]]
        for kind in kinds:
            if not isinstance(kind, ast.Name) or (kind.id not in KINDS and kind.id not in package.classes):
                yield file.fault("L22", node, "isinstance with something else than classes")
    if name == "bytes":
        yield file.fault("L7", node, "a call of bytes")
    if name == "pow" and not (len(node.args) == 3 and _is_modulus(node.args[2])):
        yield file.fault("L27", node, "pow without a literal modulus")


def _is_modulus(value):
    return isinstance(value, ast.Constant) and isinstance(value.value, int) and value.value > 1


def _is_key(package, value):
    if isinstance(value, ast.Name):
        return value.id in AS_KEY or value.id in package.functions
    if isinstance(value, ast.Attribute):
        return value.attr in package.methods
    return isinstance(value, ast.Lambda)


def _is_used_well(file, node):
    """Whether a builtin that is read is called, or stands where its name alone may stand."""
    parent = file.parent(node)
    if isinstance(parent, ast.Call) and parent.func is node:
        return True
    if node.id in ERRORS or node.id in ("True", "False", "None"):
        return True
    if node.id == "NotImplemented":
        return isinstance(parent, ast.Return)
    if isinstance(parent, ast.keyword):
        return parent.arg == "key" and node.id in AS_KEY
    outer = file.parent(parent) if isinstance(parent, ast.Tuple) else parent
    return node.id in CLASSES and called(outer) == "isinstance" and outer.args[1] in (node, parent)


def _passes(package, file, node):
    """Calls of own functions and classes pass what these take (L22)."""
    name = called(node)
    if any(isinstance(value, ast.Starred) for value in node.args) or any(word.arg is None for word in node.keywords):
        return
    signature = None
    function = package.function(file, name)
    if function is not None:
        signature = _signature(function)
    elif name in package.classes:
        signature = _constructor(package, name)
    if signature is None:
        return
    try:
        signature.bind(*node.args, **{word.arg: word.value for word in node.keywords})
    except TypeError as problem:
        yield file.fault("L22", node, f"a call of {name}: {problem}")


def _constructor(package, name):
    """The signature of a class, None where Python's own decides."""
    for word in [name] + package.bases(name):
        for row in package.classes[word].body if word in package.classes else ():
            if isinstance(row, FUNCTIONS) and row.name == "__init__":
                return _signature(row, 1)
    return None if package.is_error(name) else Signature()


def _signature(function, skipped=0):
    names, found = function.args, []
    plain = names.posonlyargs + names.args
    for at, name in enumerate(plain):
        kind = Parameter.POSITIONAL_ONLY if name in names.posonlyargs else Parameter.POSITIONAL_OR_KEYWORD
        default = None if at >= len(plain) - len(names.defaults) else Parameter.empty
        found.append(Parameter(name.arg, kind, default=default))
    if names.vararg:
        found.append(Parameter(names.vararg.arg, Parameter.VAR_POSITIONAL))
    for name, value in zip(names.kwonlyargs, names.kw_defaults):
        default = Parameter.empty if value is None else None
        found.append(Parameter(name.arg, Parameter.KEYWORD_ONLY, default=default))
    if names.kwarg:
        found.append(Parameter(names.kwarg.arg, Parameter.VAR_KEYWORD))
    return Signature(found[skipped:])


def _method(package, file, node):
    name = called_method(node)
    if name is None or name.startswith("__"):
        return
    own = name in package.methods or name in package.attributes or name == "setter"
    if not own and name not in METHODS and name not in ("add", "discard"):
        yield file.fault("L25", node, f"the method {name}")
    if not own and node.keywords:
        yield file.fault("L25", node, f"the method {name} with keywords")
    if isinstance(node.func.value, ast.Constant) and name not in METHODS:
        yield file.fault("L25", node, f"the method {name} of a literal")


def _attribute(package, file, node):
    parent = file.parent(node)
    if not isinstance(node.ctx, ast.Load) or node.attr.startswith("__"):
        return
    if isinstance(parent, ast.Call) and parent.func is node:
        return
    known = node.attr in package.attributes or node.attr in package.values or node.attr in package.properties()
    passed = isinstance(parent, ast.keyword) and parent.arg == "key" and node.attr in package.methods
    if not known and not passed and node.attr != "setter" and not (file.is_main and _is_of_sys(node)):
        yield file.fault("L18", node, f"the attribute {node.attr} is assigned by no class")


def _is_of_sys(node):
    streams = ("stdin", "stdout", "stderr", "argv")
    return isinstance(node.value, ast.Name) and node.value.id == "sys" and node.attr in streams


def _iterated(package, file, node):
    lazy = called(node) in LAZY or (called_method(node) in VIEWS and not node.args)
    made = called(node) in package.generators or called_method(node) in package.generators
    if not lazy and not made:
        return
    parent = file.parent(node)
    if isinstance(parent, (ast.For, ast.comprehension)) and parent.iter is node:
        return
    if isinstance(parent, ast.YieldFrom) and made:
        return
    if called(parent) in TAKERS and (parent.args[:1] == [node] or (made and called(parent) == "zip")):
        if made and called(parent) in WHOLE and (package.has("__eq__") or package.has("__len__")):
            yield file.fault("L23", node, "a generator beside classes with __eq__ or __len__: take a list")
        return
    if called_method(parent) == "join" and isinstance(parent.func.value, ast.Constant):
        return
    if made or not _may_stand(file, node):
        yield file.fault("L23", node, "something to iterate over that is not iterated at once")


def _may_stand(file, node):
    """Whether a range or a view stands where it may, though it is not iterated there."""
    parent = file.parent(node)
    inside = isinstance(parent, ast.Compare) and all(isinstance(op, (ast.In, ast.NotIn)) for op in parent.ops)
    if called(node) == "range":
        kept = isinstance(parent, ast.Assign) and isinstance(parent.targets[0], ast.Name)
        return inside or kept or called(parent) in ("len", "reversed")
    if called_method(node) in VIEWS:
        return called(parent) == "len" or (called_method(node) == "keys" and inside)
    return False
