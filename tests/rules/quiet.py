"""Operators and properties change nothing, nor does anything that they run: L5."""

import ast

from rules.classes import OPERATORS
from rules.source import CHANGING, FUNCTIONS, called, called_method, decorators, is_dunder, parameters

ALSO = ("__eq__", "__str__", "__repr__", "__len__")
MAKING = ("list", "dict", "set", "sorted")
LITERALS = (ast.List, ast.Dict, ast.Set, ast.ListComp, ast.DictComp, ast.SetComp)


def check(package):
    """The faults of all functions that operators and properties run."""
    homes = {node: file for file in package.files for node in file.of(*FUNCTIONS)}
    for node in _reached(package, homes):
        yield from _changes(homes[node], node)
        yield from _calls(package, homes[node], node)


def _reached(package, homes):
    """Operators, properties and all that they run."""
    waiting = [node for node in homes if node.name in OPERATORS + ALSO or "property" in decorators(node)]
    reached = []
    while waiting:
        node = waiting.pop()
        if node not in reached:
            reached.append(node)
            waiting += [found for call in ast.walk(node) for found in _targets(package, homes[node], call)]
    return reached


def _targets(package, file, call):
    """The functions and methods that a call may run."""
    name, method = called(call), called_method(call)
    if name in package.classes:
        family = [word for word in [name] + package.bases(name) if word in package.classes]
        rows = [row for word in family for row in package.classes[word].body]
        return [row for row in rows if isinstance(row, FUNCTIONS) and row.name == "__init__"]
    if name is not None:
        function = package.function(file, name)
        return [] if function is None else [function]
    return package.methods.get(method, []) if method is not None and not is_dunder(method) else []


def _changes(file, node):
    yields = any(isinstance(inner, (ast.Yield, ast.YieldFrom)) for inner in ast.walk(node))
    for inner in ast.walk(node):
        changed = None
        if isinstance(inner, ast.Attribute) and not isinstance(inner.ctx, ast.Load):
            if not (node.name == "__init__" and ast.unparse(inner.value) == "self"):
                yield file.fault("L5", inner, f"{node.name} is run by an operator or property and changes an attribute")
        elif isinstance(inner, ast.Subscript) and not isinstance(inner.ctx, ast.Load):
            changed = inner.value
        elif called_method(inner) in CHANGING:
            changed = inner.func.value
        elif isinstance(inner, ast.Nonlocal):
            yield file.fault("L5", inner, f"{node.name} is run by an operator or property and changes a name around it")
        elif isinstance(inner, ast.AugAssign) and not _is_counting(inner):
            yield file.fault("L5", inner, f"{node.name} is run by an operator or property and changes by a sign")
        if changed is not None and (yields or not _is_created(node, changed)):
            yield file.fault("L5", inner, f"{node.name} is run by an operator or property and changes what it did not make")


def _is_counting(node):
    number = isinstance(node.value, ast.Constant) and isinstance(node.value.value, int)
    return isinstance(node.target, ast.Name) and number


def _is_created(function, value):
    """Whether a list, dict or set is one that the function itself made, whatever it is assigned."""
    if not isinstance(value, ast.Name) or value.id in [name.arg for name in parameters(function)]:
        return False
    stored = [inner for inner in ast.walk(function)
              if isinstance(inner, ast.Name) and inner.id == value.id and not isinstance(inner.ctx, ast.Load)]
    made = [inner.targets[0] for inner in ast.walk(function)
            if isinstance(inner, ast.Assign) and len(inner.targets) == 1 and _is_new(inner.value)]
    return bool(stored) and all(name in made for name in stored)


def _is_new(value):
    if isinstance(value, ast.BinOp):
        times = isinstance(value.op, ast.Mult) and isinstance(value.left, ast.List)
        return times or (isinstance(value.op, ast.Add) and (_is_new(value.left) or _is_new(value.right)))
    slices = isinstance(value, ast.Subscript) and isinstance(value.slice, ast.Slice)
    return isinstance(value, LITERALS) or called(value) in MAKING or slices or called_method(value) == "copy"


def _calls(package, file, node):
    """Calls of what is passed or held, and of objects, which the function does not name itself."""
    held = {name.arg for inner in ast.walk(node) if isinstance(inner, FUNCTIONS + (ast.Lambda,))
            for name in parameters(inner)}
    held |= {inner.id for inner in ast.walk(node)
             if isinstance(inner, ast.Name) and not isinstance(inner.ctx, ast.Load)}
    for inner in ast.walk(node):
        if not isinstance(inner, ast.Call):
            continue
        plain = isinstance(inner.func, (ast.Name, ast.Attribute))
        own = called_method(inner) in package.attributes
        if not plain or called(inner) in held or own:
            yield file.fault("L5", inner, f"{node.name} is run by an operator or property and calls what it holds")
