"""What stands at module level and in the bodies of classes: L3, L4, L15."""

import ast

from rules.source import FUNCTIONS, changes, is_text

KEYS = (int, str, bytes, bool)


def check(package):
    """The faults of the module level of each file, and of default values."""
    for file in package.files:
        yield from _rows(file)
        yield from _bound_once(file)
        yield from _state(file)
        for node in file.of(ast.Lambda, *FUNCTIONS):
            for value in node.args.defaults + [value for value in node.args.kw_defaults if value is not None]:
                if not _is_default(value):
                    yield file.fault("L4", value, "a default value that is not plain")


def _rows(file):
    functions = []
    for at, row in enumerate(file.tree.body):
        if isinstance(row, ast.FunctionDef):
            functions.append(row.name)
        elif isinstance(row, ast.Assign):
            if len(row.targets) != 1 or not isinstance(row.targets[0], ast.Name):
                yield file.fault("L3", row, "an assignment of more than one name at module level")
            if not _is_plain(row.value, functions):
                yield file.fault("L3", row, "a value at module level that is not plain")
            if any(isinstance(part, (ast.List, ast.Dict)) for part in ast.walk(row.value) if part is not row.value):
                yield file.fault("L15", row, "a list or dict inside a value at module level")
        elif not isinstance(row, (ast.Import, ast.ImportFrom, ast.ClassDef)) and not (at == 0 and is_text(row)):
            if not (file.is_main and row is file.tree.body[-1] and _is_guard(row)):
                yield file.fault("L3", row, "a statement at module level")


def _is_guard(row):
    return isinstance(row, ast.If) and ast.unparse(row.test) == "__name__ == '__main__'" and not row.orelse


def _is_plain(value, functions=()):
    """Whether a value is written out: integers, strings and the like, lists, tuples and dicts of these."""
    if isinstance(value, ast.Constant):
        return value.value is None or isinstance(value.value, KEYS)
    if isinstance(value, ast.UnaryOp):
        return isinstance(value.op, ast.USub) and _is_plain(value.operand)
    if isinstance(value, (ast.List, ast.Tuple)):
        return all(_is_plain(part, functions) for part in value.elts)
    if isinstance(value, ast.Dict):
        return all(part is not None and _is_plain(part, functions) for part in value.keys + value.values)
    return isinstance(value, ast.Name) and value.id in functions


def _is_default(value):
    if isinstance(value, ast.BinOp):
        return _is_default(value.left) and _is_default(value.right)
    if isinstance(value, ast.Tuple):
        return all(_is_default(part) for part in value.elts)
    return isinstance(value, ast.Name) or (_is_plain(value) and not isinstance(value, (ast.List, ast.Dict)))


def _bound_once(file):
    found = set()
    for row in file.tree.body:
        if isinstance(row, (ast.Import, ast.ImportFrom)):
            names = [name.asname or name.name for name in row.names]
        elif isinstance(row, FUNCTIONS + (ast.ClassDef,)):
            names = [row.name]
        else:
            targets = row.targets if isinstance(row, ast.Assign) else []
            names = [target.id for target in targets if isinstance(target, ast.Name)]
        for name in names:
            if name in found:
                yield file.fault("L15", row, f"{name} is bound twice")
            found.add(name)


def _state(file):
    for row in file.tree.body:
        if isinstance(row, ast.Assign) and isinstance(row.value, (ast.List, ast.Dict)):
            for node in file.nodes:
                if any(isinstance(target, ast.Name) and changes(node, target.id) for target in row.targets):
                    yield file.fault("L15", node, "a list or dict at module level is changed")
