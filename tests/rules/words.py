"""Words and signs inside strings and code: L12, L17, L27."""

import ast
import io
import re
import tokenize
import warnings

from rules.source import Fault

FRAMES = ("f_back", "f_builtins", "f_code", "f_globals", "f_lasti", "f_lineno", "f_locals", "f_trace", "tb_frame",
          "tb_lasti", "tb_lineno", "tb_next", "co_names", "co_consts", "co_code", "co_varnames", "gi_frame", "gi_code")
BARRED_EVERYWHERE = ("register", "mro", "elements", "open", "input", "law", "version_info", "with_traceback",
                     "add_note") + FRAMES
BARRED_WORDS = ("typing", "typing_extensions", "enum", "Enum", "IntEnum", "StrEnum", "Flag", "IntFlag", "Generic",
                "Protocol", "ABC", "ABCMeta", "namedtuple", "NamedTuple", "TypedDict", "TYPE_CHECKING",
                "abstractmethod")
BARRED_PARTS = ("dataclass", "overload", "contextmanager")


def check(package):
    """The faults of the words of each file."""
    for file in package.files:
        yield from _tokens(file)
        yield from _strings(file)
        yield from _warnings(file)
        if re.search(r"\b_wall\b|_WallAttr", file.text):
            yield Fault("L12", file.path, 0, "the word _wall or _WallAttr")


def _tokens(file):
    """Words that may only stand in comments and docstrings, and escapes in strings."""
    docstrings = {node.lineno for node in file.docstrings()}
    for token in tokenize.generate_tokens(io.StringIO(file.text).readline):
        line = token.start[0]
        if token.type == tokenize.COMMENT:
            continue
        for escape in re.findall(r"\\(.|\n)", token.string) if token.type != tokenize.NAME else ():
            if escape not in "nt\\'\"":
                yield Fault("L27", file.path, line, "an escape other than for a line feed, a tab, a quote")
        if token.type == tokenize.STRING and line in docstrings:
            continue
        for word in re.findall(r"\w+", token.string):
            if word in BARRED_WORDS or any(part in word for part in BARRED_PARTS):
                yield Fault("L17", file.path, line, f"the word {word}")
        if token.type == tokenize.NAME and (token.string == "type" or token.string in BARRED_EVERYWHERE):
            yield Fault("L17", file.path, line, f"the name {token.string}")


def _strings(file):
    for node in file.of(ast.Constant):
        if not isinstance(node.value, str):
            continue
        if "%" in node.value:
            yield file.fault("L27", node, "a percent sign in a string")
        if node.value.endswith(("._", ".__")):
            yield file.fault("L27", node, "a string that ends in a dot and underscores")
        dunder = len(node.value) > 3 and node.value.startswith("__") and node.value.endswith("__")
        if (dunder and node.value != "__main__") or node.value in FRAMES:
            yield file.fault("L27", node, "a string that is a name of Python's own")
        inner = "{" in node.value or "}" in node.value or ("." in node.value and " " not in node.value)
        if inner and re.search(r"\b__\w|" + "|".join(FRAMES), node.value):
            yield file.fault("L27", node, "a string with a brace or a dot and a name of Python's own")


def _warnings(file):
    with warnings.catch_warnings():
        warnings.simplefilter("error")
        try:
            compile(file.text, file.path, "exec")
        except (SyntaxWarning, DeprecationWarning, SyntaxError) as problem:
            yield Fault("L27", file.path, 0, f"Python warns: {problem}")
