"""The parsed files of a package, and what the checks ask about them."""

import ast
from collections import namedtuple

PACKAGE = "threeswaps"

Fault = namedtuple("Fault", "rule path line why")

CHANGING = ("append", "clear", "extend", "insert", "pop", "remove", "reverse", "setdefault", "update", "add",
            "discard")

FUNCTIONS = (ast.FunctionDef, ast.AsyncFunctionDef)
COMPREHENSIONS = (ast.ListComp, ast.SetComp, ast.DictComp, ast.GeneratorExp)

ERRORS = (
    "Exception", "ValueError", "TypeError", "KeyError", "IndexError", "LookupError", "ZeroDivisionError",
    "ArithmeticError", "OverflowError", "RuntimeError", "NotImplementedError", "AttributeError", "StopIteration",
)


class File:
    """One parsed file."""

    def __init__(self, path, text):
        self.path = path
        self.text = text
        self.tree = ast.parse(text)
        self.nodes = list(ast.walk(self.tree))
        self.parents = {child: node for node in self.nodes for child in ast.iter_child_nodes(node)}
        parts = path[:-len(".py")].split("/")
        if parts[-1] == "__init__":
            parts = parts[:-1]
        self.module = ".".join([PACKAGE] + parts)
        self.is_main = path == "__main__.py"

    def of(self, *kinds):
        """The nodes of these kinds."""
        return [node for node in self.nodes if isinstance(node, kinds)]

    def parent(self, node):
        """The node around a node, None around the whole file."""
        return self.parents.get(node)

    def around(self, node):
        """The nodes around a node, from the inside out."""
        node = self.parent(node)
        while node is not None:
            yield node
            node = self.parent(node)

    def function_of(self, node):
        """The innermost function or lambda around a node, or None."""
        return next((outer for outer in self.around(node) if isinstance(outer, FUNCTIONS + (ast.Lambda,))), None)

    def class_of(self, node):
        """The class in whose body a method or value stands, or None."""
        parent = self.parent(node)
        return parent if isinstance(parent, ast.ClassDef) else None

    def docstrings(self):
        """The nodes that are docstrings."""
        found = []
        for node in self.of(ast.Module, ast.ClassDef, *FUNCTIONS):
            if node.body and is_text(node.body[0]):
                found.append(node.body[0].value)
        return found

    def fault(self, rule, node, why):
        """A fault at a node."""
        return Fault(rule, self.path, getattr(node, "lineno", 0), why)


class Package:
    """All files, and the names that they define."""

    def __init__(self, texts):
        self.texts = texts
        self.files = [File(path, texts[path]) for path in sorted(texts) if path.endswith(".py")]
        self.modules = {file.module: file for file in self.files}
        self.classes = {node.name: node for file in self.files for node in file.of(ast.ClassDef)}
        self.functions = {node.name for file in self.files for node in file.tree.body if isinstance(node, FUNCTIONS)}
        self.defined = [node.name for file in self.files for node in file.of(*FUNCTIONS)]
        self.methods, self.values, self.generators = {}, set(), set()
        for file in self.files:
            self._learn(file)
        self.attributes = {name for names in self.attributes_by_class().values() for name in names}

    def _learn(self, file):
        for node in file.of(*FUNCTIONS):
            if file.class_of(node) is not None:
                self.methods.setdefault(node.name, []).append(node)
            if any(file.function_of(inner) is node for inner in file.of(ast.Yield, ast.YieldFrom)):
                self.generators.add(node.name)
        for node in file.of(ast.ClassDef):
            for statement in node.body:
                if isinstance(statement, ast.Assign):
                    self.values.update(bound_names(statement))

    def attributes_by_class(self):
        """A dict from the classes' names to the names of the attributes that they give their own objects."""
        found = {}
        for file in self.files:
            for node in file.of(ast.ClassDef):
                found[node.name] = {
                    inner.attr for inner in ast.walk(node)
                    if isinstance(inner, ast.Attribute) and isinstance(inner.ctx, ast.Store)
                    and isinstance(inner.value, ast.Name) and inner.value.id == "self"
                }
        return found

    def function(self, file, name):
        """The function of the package that a plain name means in a file, or None."""
        homes = [file] + [self.modules[row.module] for row in file.of(ast.ImportFrom)
                          if row.module in self.modules and name in [word.name for word in row.names]]
        found = [row for home in homes for row in home.tree.body if isinstance(row, FUNCTIONS) and row.name == name]
        return found[0] if found else None

    def properties(self):
        """The names of all properties."""
        return {name for name in self.methods for node in self.methods[name] if "property" in decorators(node)}

    def has(self, method):
        """Whether a class of the package has a method of this name."""
        return method in self.methods

    def bases(self, name):
        """The names of all classes above a class, Python's own ones included."""
        found = []
        node = self.classes.get(name)
        for base in (node.bases if node else []):
            if isinstance(base, ast.Name) and base.id != name:
                found += [base.id] + self.bases(base.id)
        return found

    def is_error(self, name):
        """Whether a name is that of an error class."""
        return name in ERRORS or any(base in ERRORS for base in self.bases(name))


def is_text(statement):
    """Whether a statement is a string alone."""
    return (isinstance(statement, ast.Expr) and isinstance(statement.value, ast.Constant)
            and isinstance(statement.value.value, str))


def bound_names(node):
    """The plain names that an assignment, a loop or the like binds."""
    return [inner.id for inner in ast.walk(node) if isinstance(inner, ast.Name) and isinstance(inner.ctx, ast.Store)]


def decorators(node):
    """The plain names over a function."""
    return [word.id for word in node.decorator_list if isinstance(word, ast.Name)]


def parameters(node):
    """The parameters of a function or lambda."""
    found = node.args.posonlyargs + node.args.args + node.args.kwonlyargs
    return found + [star for star in (node.args.vararg, node.args.kwarg) if star is not None]


def is_dunder(name):
    """Whether a name begins and ends with two underscores."""
    return name.startswith("__") and name.endswith("__")


def called(node):
    """The plain name that a call calls, or None."""
    return node.func.id if isinstance(node, ast.Call) and isinstance(node.func, ast.Name) else None


def called_method(node):
    """The name of the method that a call calls, or None."""
    return node.func.attr if isinstance(node, ast.Call) and isinstance(node.func, ast.Attribute) else None


def changes(node, name):
    """Whether a node changes the list, dict or set that is written as name."""
    if isinstance(node, ast.Subscript) and not isinstance(node.ctx, ast.Load):
        return ast.unparse(node.value) == name
    return called_method(node) in CHANGING and ast.unparse(node.func.value) == name
