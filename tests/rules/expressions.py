"""Expressions: L7, L13, L24, L27."""

import ast

from rules.source import COMPREHENSIONS, FUNCTIONS, called, called_method, parameters

ALLOWED = (
    ast.BoolOp, ast.BinOp, ast.UnaryOp, ast.Lambda, ast.IfExp, ast.Dict, ast.Set, ast.ListComp, ast.SetComp,
    ast.DictComp, ast.GeneratorExp, ast.Yield, ast.YieldFrom, ast.Compare, ast.Call, ast.FormattedValue,
    ast.JoinedStr, ast.Constant, ast.Attribute, ast.Subscript, ast.Starred, ast.Name, ast.List, ast.Tuple, ast.Slice,
)
BEHIND_STARS = (ast.Name, ast.Attribute, ast.Constant, ast.List, ast.Tuple, ast.Dict, ast.expr_context)
WITHOUT_STARS = ("len", "range", "enumerate", "sum", "abs", "sorted", "reversed", "int", "str", "bool", "list", "tuple",
                 "dict", "set", "isinstance", "ord", "repr", "any", "all", "divmod", "pow", "gcd", "lcm")
BARRED_OPERATORS = {ast.Div: "/", ast.MatMult: "@"}
WHOLE = ("any", "all", "min", "max", "sum", "sorted")


def check(package):
    """The faults of all expressions."""
    for file in package.files:
        for node in file.of(ast.expr):
            if not isinstance(node, ALLOWED):
                yield file.fault("L7", node, f"the expression {node.__class__.__name__}")
            yield from _constant(file, node)
            yield from _operator(file, node)
            yield from _comprehension(package, file, node)
            yield from _star(package, file, node)
        yield from _sets(file)
        yield from _lambdas(file)


def _constant(file, node):
    if isinstance(node, ast.Constant) and isinstance(node.value, (float, complex, bytes, type(...))):
        yield file.fault("L7", node, "a float, a complex number, bytes or dots")
    if isinstance(node, ast.FormattedValue) and node.conversion == ord("a"):
        yield file.fault("L7", node, "!a in an f-string")
    if isinstance(node, ast.FormattedValue) and any(isinstance(part, ast.JoinedStr) for part in ast.walk(node.value)):
        yield file.fault("L27", node, "an f-string in an f-string")


def _operator(file, node):
    if not isinstance(node, ast.BinOp):
        return
    if node.op.__class__ in BARRED_OPERATORS:
        yield file.fault("L7", node, f"the operator {BARRED_OPERATORS[node.op.__class__]}")
    if isinstance(node.op, ast.Pow) and not _is_exponent(file, node.right):
        yield file.fault("L27", node, "an exponent that is not a literal from 0 to 64")


def _is_exponent(file, value):
    return isinstance(value, ast.Constant) and isinstance(value.value, int) and 0 <= value.value <= 64


def _comprehension(package, file, node):
    if not isinstance(node, COMPREHENSIONS):
        return
    if file.function_of(node) is None:
        yield file.fault("L7", node, "a comprehension outside of a function")
    loops, tests = 0, 0
    for inner in ast.walk(node):
        loops += isinstance(inner, ast.comprehension)
        tests += len(inner.ifs) if isinstance(inner, ast.comprehension) else 0
    if loops > 6 or tests > 12:
        yield file.fault("L7", node, "a comprehension with too many for or if")
    if isinstance(node, ast.GeneratorExp):
        yield from _generator(package, file, node)


def _generator(package, file, node):
    call = file.parent(node)
    into = called(call)
    joins = called_method(call) == "join" and isinstance(call.func.value, ast.Constant)
    if not joins and into not in ("list", "tuple", "dict") + WHOLE:
        yield file.fault("L7", node, "a generator expression that is not iterated at once")
    elif into in WHOLE and (package.has("__eq__") or package.has("__len__")):
        yield file.fault("L7", node, "a generator expression beside classes with __eq__ or __len__")
    elif into in ("min", "max") and call.keywords:
        yield file.fault("L7", node, "a generator expression beside key=")


def _star(package, file, node):
    call = file.parent(node)
    if not isinstance(node, ast.Starred) or not isinstance(call, ast.Call) or node not in call.args:
        return
    if called(call) in WITHOUT_STARS or package.is_error(called(call) or ""):
        yield file.fault("L7", node, "a star in a call of a builtin or an error class")
    if any(not isinstance(part, BEHIND_STARS) for part in ast.walk(node.value)):
        yield file.fault("L7", node, "a star over something else than a name or an attribute")


def _is_set(node):
    return isinstance(node, (ast.Set, ast.SetComp)) or called(node) == "set"


def _sets(file):
    stored = {}
    for node in file.of(ast.expr):
        if not _is_set(node):
            continue
        parent = file.parent(node)
        if isinstance(parent, ast.Assign):
            name = parent.targets[0].id if isinstance(parent.targets[0], ast.Name) else None
            key = (file.function_of(node), name)
            if name is None or len(parent.targets) > 1 or key[0] is None or key in stored:
                yield file.fault("L24", node, "a set that is not stored once in a local variable")
            stored[key] = parent.targets[0]
        elif not _may_hold_set(file, node):
            yield file.fault("L24", node, "a set where none may stand")
        if isinstance(node, ast.Set) and sum([_is_integer(part) for part in node.elts]) > 2:
            yield file.fault("L13", node, "a set literal with three or more integers")
    for (function, name), first in stored.items():
        yield from _stored_set(file, function, name, first)


def _is_integer(part):
    return isinstance(part, (ast.Constant, ast.UnaryOp)) and not isinstance(getattr(part, "value", 0), (str, bytes))


def _may_hold_set(file, node):
    parent = file.parent(node)
    if isinstance(parent, ast.BinOp):
        return _may_hold_set(file, parent)
    if isinstance(parent, ast.Compare):
        compared = all(isinstance(op, (ast.In, ast.NotIn, ast.Eq, ast.NotEq)) for op in parent.ops)
        return compared
    return called(parent) in ("sorted", "len") and parent.args == [node]


def _stored_set(file, function, name, first):
    for node in ast.walk(function):
        if not isinstance(node, ast.Name) or node.id != name or node is first:
            continue
        parent = file.parent(node)
        method = isinstance(parent, ast.Attribute) and parent.attr in ("add", "discard")
        changed = method and isinstance(file.parent(file.parent(parent)), ast.Expr)
        tested = isinstance(parent, (ast.If, ast.While, ast.Assert, ast.IfExp, ast.BoolOp, ast.UnaryOp))
        asked = tested or isinstance(parent, ast.Compare) or called(parent) in ("len", "sorted")
        if not isinstance(node.ctx, ast.Load) or not (changed or asked) or file.function_of(node) is not function:
            yield file.fault("L24", node, f"the set {name} is used in another way than the rule allows")


def _lambdas(file):
    seen = {}
    for node in file.of(ast.Lambda):
        key = (node.lineno, tuple(name.arg for name in parameters(node)))
        if key in seen:
            yield file.fault("L13", node, "two lambdas with the same parameters on one line")
        seen[key] = True
        if node.args.vararg or node.args.kwarg or node.args.kwonlyargs or node.args.posonlyargs:
            yield file.fault("L4", node, "a lambda with stars")
    for node in file.of(*FUNCTIONS):
        if node.args.posonlyargs and file.parent(node) is not file.tree:
            yield file.fault("L4", node, "a / among the parameters of a method or a nested function")
