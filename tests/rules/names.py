"""Names: L8, L12, L15, L17, L18, L20, L21."""

import ast
import builtins
import re

from rules.source import ERRORS, FUNCTIONS, is_dunder, parameters
from rules.words import BARRED_EVERYWHERE

FREE = ("len", "range", "enumerate", "zip", "min", "max", "sum", "abs", "sorted", "reversed", "int", "str", "bool",
        "list", "tuple", "dict", "set", "isinstance", "ord", "repr", "any", "all", "divmod", "pow", "bytes",
        "NotImplemented", "True", "False", "None") + ERRORS
DECORATORS = ("property", "staticmethod", "classmethod", "super")
NOT_FOR_NAMES = ("attrgetter", "breakpoint", "builtins", "compile", "copyright", "credits", "delattr", "dir", "eval",
                 "exec", "exit", "gc", "getattr", "globals", "hasattr", "help", "id", "importlib", "license", "locals",
                 "methodcaller", "os", "quit", "setattr", "super", "type", "vars", "sys")
NEVER_BEGIN = ("_wall", "_pe_", "_dcw_", "_enum_", "_cm_", "_twin_re_", "_lay_", "_law_", "_stub_", "_sre")
NEVER = re.compile(r"(_cold|_tuplegetter|_outside|_record|_written_out|_member_names)[0-9_]*")


def check(package):
    """The faults of all names that are bound and read."""
    for file in package.files:
        bound = list(_bindings(file))
        for name, node, kind in bound:
            yield from _binding(file, name, node, kind)
        yield from _shadows(file, bound)
        yield from _reads(file, {name for name, _, _ in bound})
        yield from _annotations(file)
        for node in file.of(ast.Compare):
            yield from _is_uses(file, node)


def _bindings(file):
    """Each name that is bound, where, and as what."""
    for node in file.nodes:
        if isinstance(node, FUNCTIONS):
            yield node.name, node, "function" if file.class_of(node) is None else "method"
        elif isinstance(node, ast.ClassDef):
            yield node.name, node, "class"
        elif isinstance(node, ast.arg):
            yield node.arg, node, "parameter"
        elif isinstance(node, ast.Name) and not isinstance(node.ctx, ast.Load):
            yield node.id, node, "variable"
        elif isinstance(node, (ast.Import, ast.ImportFrom)):
            for name in node.names:
                yield name.asname or name.name, node, "import"
        elif isinstance(node, ast.ExceptHandler) and node.name is not None:
            yield node.name, node, "error"
        elif isinstance(node, ast.Attribute) and not isinstance(node.ctx, ast.Load):
            yield node.attr, node, "attribute"
        elif isinstance(node, ast.keyword) and node.arg is not None:
            yield node.arg, node, "keyword"


def _binding(file, name, node, kind):
    if is_dunder(name) and kind in ("method", "variable"):
        # Which of them are allowed is told where classes are checked.
        if kind == "variable" and name != "__slots__":
            yield file.fault("L8", node, f"the name {name}")
        return
    if name == "_" and kind in ("variable", "parameter"):
        if file.function_of(node) is None:
            yield file.fault("L12", node, "_ outside of a function")
    elif not re.fullmatch("_?[A-Za-z][A-Za-z0-9_]*", name) or (kind == "class" and name.startswith("_")):
        yield file.fault("L12", node, f"the name {name}")
    if NEVER.fullmatch(name) or (name.startswith(NEVER_BEGIN) and kind not in ("attribute", "method")):
        yield file.fault("L12", node, f"the name {name}")
    if name in BARRED_EVERYWHERE:
        yield file.fault("L17", node, f"the name {name}")
    if kind in ("attribute", "keyword"):
        return
    main = file.is_main and kind == "import" and name == "sys"
    if name in NOT_FOR_NAMES and not main:
        yield file.fault("L17", node, f"the name {name}")
    # doctest keeps its last value as a builtin called _.
    if name != "_" and hasattr(builtins, name) and (kind != "method" or name in FREE):
        yield file.fault("L15", node, f"{name} is the name of a builtin")


def _shadows(file, bound):
    taken = {name for name, node, kind in bound if kind in ("class", "import")}
    for name, node, kind in bound:
        local = kind in ("parameter", "variable", "error") or (kind == "function" and file.function_of(node))
        if local and name in taken:
            yield file.fault("L15", node, f"{name} is a class or an import of the file")


def _reads(file, bound):
    for node in file.of(ast.Name):
        if not isinstance(node.ctx, ast.Load):
            continue
        decorates = node.id in DECORATORS and _is_decorator(file, node)
        main = file.is_main and node.id in ("print", "__name__")
        if node.id == "_":
            yield file.fault("L12", node, "_ is read")
        elif node.id not in bound and node.id not in FREE and not decorates and not main:
            yield file.fault("L8", node, f"the name {node.id} is not free to use")


def _is_decorator(file, node):
    parent = file.parent(node)
    if node.id == "super":
        return isinstance(parent, ast.Call) and not parent.args and not parent.keywords
    return isinstance(parent, FUNCTIONS) and node in parent.decorator_list


def _annotations(file):
    for node in file.of(ast.AnnAssign):
        yield file.fault("L21", node, "an annotation")
    for node in file.of(*FUNCTIONS):
        if node.returns is not None or any(name.annotation is not None for name in parameters(node)):
            yield file.fault("L21", node, "an annotation")


def _is_uses(file, node):
    sides = [node.left] + node.comparators
    for op, left, right in zip(node.ops, sides, sides[1:]):
        if isinstance(op, (ast.Is, ast.IsNot)) and not any(_is_single(side) for side in (left, right)):
            yield file.fault("L20", node, "is without None, True or False")


def _is_single(side):
    return isinstance(side, ast.Constant) and side.value in (None, True, False) and not _is_number(side.value)


def _is_number(value):
    return isinstance(value, int) and not isinstance(value, bool)
