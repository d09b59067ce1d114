"""Files, folders, sizes and characters: L1, L10, L14."""

import ast
import builtins
import re
import sys

from rules.source import FUNCTIONS, PACKAGE, Fault
from rules.words import BARRED_EVERYWHERE

BARRED = ("test", "tests", "testing", "site", "conftest", "sitecustomize", "usercustomize", "heapq", "math",
          "itertools")


def check(package):
    """The faults of the folder and of the sizes of its files."""
    yield from _folder(package)
    for file in package.files:
        yield from _sizes(file)
        for number, line in enumerate(file.text.split("\n"), 1):
            if len(line) > 120:
                yield Fault("L10", file.path, number, "a line of more than 120 characters")
            if not all(" " <= sign <= "~" for sign in line):
                yield Fault("L14", file.path, number, "a character outside of plain ASCII")


def _folder(package):
    if PACKAGE in sys.stdlib_module_names:
        yield Fault("L14", PACKAGE, 0, "the package is called like a module of the standard library")
    if len(package.texts) > 100:
        yield Fault("L14", PACKAGE, 0, "more than 100 files")
    for path in package.texts:
        *folders, name = path.split("/")
        if not name.endswith(".py"):
            yield Fault("L1", path, 0, "no .py file")
        for at in range(len(folders) + 1):
            if "/".join(folders[:at] + ["__init__.py"]) not in package.texts:
                yield Fault("L14", path, 0, "a folder without __init__.py")
        for word in folders + [name.removesuffix(".py")]:
            if not _is_plain(word):
                yield Fault("L14", path, 0, f"a file or folder called {word}")
        if name == "__main__.py" and folders:
            yield Fault("L14", path, 0, "__main__.py below the top")
        if path.removesuffix(".py") + "/__init__.py" in package.texts:
            yield Fault("L14", path, 0, "a file with the name of a folder beside it")


def _is_plain(word):
    if word in ("__init__", "__main__"):
        return True
    if word in BARRED or word in BARRED_EVERYWHERE or hasattr(builtins, word):
        return False
    return re.fullmatch("[a-z][a-z0-9_]*", word) is not None and not word.startswith(("test_", "law_"))


def _sizes(file):
    if len(file.text.splitlines()) > 399:
        yield Fault("L10", file.path, 400, "more than 399 lines")
    for node in file.of(*FUNCTIONS):
        if node.end_lineno - node.lineno + 1 > 40:
            yield file.fault("L10", node, f"{node.name} has more than 40 lines")
    for node in file.of(ast.Constant):
        if isinstance(node.value, int) and abs(node.value) >= 10 ** 900:
            yield file.fault("L27", node, "a number of more than 900 digits")
