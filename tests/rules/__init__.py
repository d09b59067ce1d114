"""A check of the package against ../shared/LANGUAGE.md, as far as the text of its files shows it.

Where a rule allows something under many conditions that the package does not need (match, with,
finally, sort, bytes, annotations, heaps ..), the check forbids it altogether. Code that needs such
a thing extends the check first.
"""

from rules import calls, classes, expressions, files, imports, layout, names, quiet, statements, words
from rules.source import Package

CHECKS = (
    files.check, words.check, imports.check, layout.check, names.check,
    classes.check, quiet.check, statements.check, expressions.check, calls.check,
)


def faults(texts):
    """The faults of a package, a dict from the paths in its folder to the texts of its files."""
    package = Package(texts)
    found = [fault for check in CHECKS for fault in check(package)]
    return sorted(set(found))
