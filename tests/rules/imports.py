"""Imports: L2, L16."""

import ast

from rules.source import FUNCTIONS, PACKAGE, bound_names, called, is_text

LIBRARY = {"math": ("gcd", "lcm", "isqrt", "comb", "perm", "factorial")}


def check(package):
    """The faults of all imports."""
    for file in package.files:
        yield from _places(file)
        for node in file.of(ast.Import):
            if not (file.is_main and [(name.name, name.asname) for name in node.names] == [("sys", None)]):
                yield file.fault("L2", node, "an import that is not of the form from .. import ..")
        for node in file.of(ast.ImportFrom):
            yield from _import(package, file, node)
        yield from _library_uses(file)
    yield from _cycles(package)
    yield from _names_of_files(package)


def _places(file):
    rows = [row for row in file.tree.body if not is_text(row)]
    others = [row.lineno for row in rows if not isinstance(row, (ast.Import, ast.ImportFrom))]
    for node in file.of(ast.Import, ast.ImportFrom):
        if node not in rows or (others and node.lineno > others[0]):
            yield file.fault("L2", node, "an import that does not stand at the top of the file")


def _import(package, file, node):
    names = [name.name for name in node.names]
    if any(name.asname is not None for name in node.names):
        yield file.fault("L2", node, "an import with as")
    if node.level or names == ["*"]:
        yield file.fault("L2", node, "an import with a leading dot or of everything")
    elif node.module in LIBRARY:
        if not all(name in LIBRARY[node.module] for name in names):
            yield file.fault("L2", node, f"{node.module} gives only {LIBRARY[node.module]}")
    elif node.module not in package.modules:
        yield file.fault("L2", node, f"an import from {node.module}")
    elif package.modules[node.module].is_main:
        yield file.fault("L2", node, "an import of __main__")
    else:
        defined = _defined(package.modules[node.module])
        for name in names:
            if name not in defined:
                yield file.fault("L16", node, f"{node.module} does not define {name}")


def _defined(file):
    found = set()
    for row in file.tree.body:
        if isinstance(row, FUNCTIONS + (ast.ClassDef,)):
            found.add(row.name)
        elif isinstance(row, ast.Assign):
            found.update(bound_names(row))
    return found


def _library_uses(file):
    taken = {name.name for node in file.of(ast.ImportFrom) if node.module in LIBRARY for name in node.names}
    for node in file.of(ast.Name):
        if node.id not in taken:
            continue
        call = file.parent(node)
        if not isinstance(node.ctx, ast.Load) or called(call) != node.id or node in call.args:
            yield file.fault("L2", node, f"{node.id} is not only called")
        elif call.keywords or any(isinstance(value, ast.Starred) for value in call.args):
            yield file.fault("L2", node, f"{node.id} is called with keywords or a star")
        elif file.function_of(node) is None:
            yield file.fault("L2", node, f"{node.id} is called at module level")


def _leads_to(package, file):
    found = set()
    for node in file.of(ast.ImportFrom):
        parts = (node.module or "").split(".")
        if parts[0] == PACKAGE and not node.level:
            found.update(".".join(parts[:at]) for at in range(1, len(parts) + 1))
    return {module for module in found if module in package.modules and module != file.module}


def _cycles(package):
    steps = {file.module: _leads_to(package, file) for file in package.files}
    for file in package.files:
        reached, waiting = set(), list(steps[file.module])
        while waiting:
            module = waiting.pop()
            if module not in reached:
                reached.add(module)
                waiting += steps[module]
        if file.module in reached:
            yield file.fault("L16", file.tree, "files that import from each other")


def _names_of_files(package):
    for file in package.files:
        if not file.path.endswith("__init__.py"):
            continue
        for name in _defined(file):
            if file.module + "." + name in package.modules:
                yield file.fault("L16", file.tree, f"{name} is a file beside this one")
