"""Formulas: tuples that tell how a plan is made of named plans and of tables, their texts and their values."""

from threeswaps.errors import InvalidFormula, InvalidValue, UnknownName
from threeswaps.integers import is_integer
from threeswaps.plans import Plan, product
from threeswaps.readers import (
    EXPONENT_DIGITS, LETTERS, MOST_BRACKETS, MOST_FACTORS, MOST_LETTERS, MOST_OFFSETS, OFFSET_DIGITS, Reader,
)
from threeswaps.tables import table_text

# The kinds of the formulas that stand in brackets in a power, and in a product.
BRACKETED_BASES = ("power", "product")
BRACKETED_FACTORS = ("product",)


def is_name(value):
    """Whether the value is a NAME: a string of one to eight letters a to z."""
    return isinstance(value, str) and 0 < len(value) <= MOST_LETTERS and all([sign in LETTERS for sign in value])


def is_formula(value):
    """Whether the value is a formula."""
    return _is_within(value, MOST_BRACKETS)


def formula_text(formula):
    """The text of a formula."""
    _check_formula(formula)
    return _text(formula)


def names_in(formula):
    """The list of the names in a formula, each once, as they first occur in its text."""
    _check_formula(formula)
    found = []
    for name in _all_names(formula):
        if name not in found:
            found.append(name)
    return found


def read_formula(text):
    """The formula with this text."""
    if not isinstance(text, str):
        raise InvalidFormula(0)
    return Reader(text).whole()


def evaluate(formula, plans):
    """The plan that a formula tells, plans being a dict from the names to their plans."""
    for name in names_in(formula):
        if name not in plans:
            raise UnknownName(name)
    return _value(formula, plans)


def _check_formula(value):
    """Raise InvalidValue(value) unless the value is a formula."""
    if not is_formula(value):
        raise InvalidValue(value)


def _kind(value):
    """The word with which a tuple begins, None for every value that is no such tuple."""
    return value[0] if isinstance(value, tuple) and len(value) > 0 and isinstance(value[0], str) else None


def _is_within(value, brackets):
    """Whether the value is a formula whose text has at most so many pairs of brackets within each other."""
    kind = _kind(value)
    if kind == "power" and len(value) == 3:
        return _is_part(value[1], BRACKETED_BASES, brackets) and _is_short(value[2], EXPONENT_DIGITS)
    if kind is None or len(value) != 2:
        return False
    if kind == "name":
        return is_name(value[1])
    if kind == "table" and _has_parts(value[1], 1, MOST_OFFSETS):
        return all([_is_short(offset, OFFSET_DIGITS) for offset in value[1]])
    if kind == "product" and _has_parts(value[1], 2, MOST_FACTORS):
        return all([_is_part(factor, BRACKETED_FACTORS, brackets) for factor in value[1]])
    return False


def _is_part(value, bracketed, brackets):
    """Whether the value is a formula within another one, the kinds that are bracketed taking a pair of brackets."""
    left = brackets - 1 if _kind(value) in bracketed else brackets
    return left >= 0 and _is_within(value, left)


def _is_short(value, digits):
    """Whether the value is an INTEGER of at most so many digits."""
    return is_integer(value) and abs(value) < int("1" + "0" * digits)


def _has_parts(value, least, most):
    """Whether the value is a tuple with so many items."""
    return isinstance(value, tuple) and least <= len(value) <= most


def _text(formula):
    """The text of a formula without brackets around it."""
    kind, inner = formula[0], formula[1]
    if kind == "name":
        return inner
    if kind == "table":
        return table_text(inner)
    if kind == "power":
        return f"{_part_text(inner, BRACKETED_BASES)}^{formula[2]}"
    return " ".join([_part_text(factor, BRACKETED_FACTORS) for factor in inner])


def _part_text(formula, bracketed):
    """The text of a formula within another one."""
    text = _text(formula)
    return f"({text})" if formula[0] in bracketed else text


def _all_names(formula):
    """The list of the names in a formula, as often as they occur."""
    kind, inner = formula[0], formula[1]
    if kind == "name":
        return [inner]
    if kind == "table":
        return []
    if kind == "power":
        return _all_names(inner)
    return [name for factor in inner for name in _all_names(factor)]


def _value(formula, plans):
    """The value of a formula, all of whose names have plans."""
    kind, inner = formula[0], formula[1]
    if kind == "name":
        return plans[inner]
    if kind == "table":
        return Plan(inner)
    if kind == "power":
        return _value(inner, plans).power(formula[2])
    values = [_value(factor, plans) for factor in inner]
    return product(*values)
