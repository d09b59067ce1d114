"""Statements: L4, L6, L19, L23."""

import ast

from rules.source import FUNCTIONS, called, called_method, changes, decorators, is_dunder

ALLOWED = (
    ast.Assign, ast.AugAssign, ast.If, ast.While, ast.For, ast.Return, ast.Break, ast.Continue, ast.Pass, ast.Raise,
    ast.Assert, ast.Delete, ast.Nonlocal, ast.Try, ast.Expr, ast.FunctionDef, ast.ClassDef, ast.Import, ast.ImportFrom,
)
# ValueError, LookupError and IndexError may be caught around a few things only, which the package does without.
CAUGHT_FREELY = ("KeyError", "ZeroDivisionError")


def check(package):
    """The faults of all statements."""
    for file in package.files:
        docstrings = file.docstrings()
        for node in file.of(ast.stmt):
            if not isinstance(node, ALLOWED):
                if not isinstance(node, ast.AnnAssign):
                    yield file.fault("L6", node, f"the statement {node.__class__.__name__}")
            elif isinstance(node, ast.Expr) and node.value not in docstrings:
                if not isinstance(node.value, (ast.Call, ast.Yield, ast.YieldFrom)):
                    yield file.fault("L6", node, "an expression as a statement")
            elif isinstance(node, ast.AugAssign) and _is_slice(node.target):
                yield file.fault("L6", node, "an assignment with an operator at a slice")
            elif isinstance(node, ast.Delete):
                yield from _delete(file, node)
            elif isinstance(node, ast.Assign):
                yield from _assign(file, node)
            elif isinstance(node, ast.Raise):
                yield from _raise(package, file, node)
            elif isinstance(node, ast.Try):
                yield from _try(package, file, node)
            elif isinstance(node, FUNCTIONS):
                yield from _yields(file, node)
                if node.name in package.generators and package.defined.count(node.name) > 1:
                    yield file.fault("L23", node, f"another function is called like the generator {node.name}")
            elif isinstance(node, ast.For):
                yield from _loop(file, node)


def _is_slice(target):
    return isinstance(target, ast.Subscript) and isinstance(target.slice, ast.Slice)


def _delete(file, node):
    for target in node.targets:
        if file.function_of(node) is None or not isinstance(target, (ast.Name, ast.Subscript)):
            yield file.fault("L6", node, "del of an attribute, of several in brackets, or outside of a function")


def _assign(file, node):
    for target in node.targets:
        if isinstance(target, ast.List):
            yield file.fault("L6", node, "a list as a target")
        stars = any(isinstance(part, ast.Starred) for part in ast.walk(target))
        if stars and called(node.value) in ("zip", "range", "enumerate", "reversed", "map"):
            yield file.fault("L6", node, "a star before something that is iterated")


def _raise(package, file, node):
    if node.exc is None:
        if not any(isinstance(outer, ast.ExceptHandler) for outer in file.around(node)):
            yield file.fault("L19", node, "a bare raise outside of a handler")
    elif called(node.exc) is None or not package.is_error(called(node.exc)):
        yield file.fault("L19", node, "a raise of something that is not made on the spot")


def _try(package, file, node):
    if node.finalbody:
        yield file.fault("L6", node, "a finally")
    for handler in node.handlers:
        kinds = handler.type.elts if isinstance(handler.type, ast.Tuple) else [handler.type]
        for kind in kinds:
            name = kind.id if isinstance(kind, ast.Name) else None
            own = name in package.classes and package.is_error(name)
            if not kinds or not (own or name in CAUGHT_FREELY):
                yield file.fault("L19", handler, "a handler for an error that is not caught by name")


def _yields(file, node):
    inside = [inner for inner in ast.walk(node) if inner is not node and file.function_of(inner) is node]
    yields = [inner for inner in inside if isinstance(inner, (ast.Yield, ast.YieldFrom))]
    if not yields:
        return
    if decorators(node) or is_dunder(node.name):
        yield file.fault("L23", node, "a property, static, class or double-underscore method that yields")
    if any(isinstance(inner, ast.Return) and inner.value is not None for inner in inside):
        yield file.fault("L23", node, "a generator that returns a value")
    for inner in yields:
        if not isinstance(file.parent(inner), ast.Expr):
            yield file.fault("L23", inner, "a yield that is no statement of its own")
        for outer in file.around(inner):
            if isinstance(outer, ast.Try):
                yield file.fault("L23", inner, "a yield under a try")


def _loop(file, node):
    names = (ast.Name, ast.Tuple, ast.Starred, ast.expr_context)
    if any(not isinstance(part, names) for part in ast.walk(node.target)):
        yield file.fault("L23", node, "a loop that assigns to something else than names")
    changed = _iterated_name(node.iter)
    for inner in ast.walk(node):
        if changed is not None and changes(inner, changed):
            yield file.fault("L23", inner, f"{changed} is changed in a loop over it")


def _iterated_name(value):
    if called(value) in ("enumerate", "zip", "reversed") and value.args:
        return _iterated_name(value.args[0])
    if called_method(value) in ("items", "keys", "values"):
        return ast.unparse(value.func.value)
    return ast.unparse(value) if isinstance(value, (ast.Name, ast.Attribute)) else None
