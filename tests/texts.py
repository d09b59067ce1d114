"""Texts of formulas, and which texts formulas begin with, found by other ways than the program's."""

import functools
import itertools
import re


def accepted(text):
    """Whether a text is that of a formula, by taking it apart at its spaces, brackets and signs."""
    if not text.isascii():
        return False
    parts = split(text, " ")
    if parts is None or len(parts) > 12 or depth(text) > 6:
        return False
    if len(parts) > 1:
        return all(is_factor(part) for part in parts)
    return is_factor(text) and not is_closed(text)


def is_factor(text):
    """Whether a text is that of a factor: a name, a table, a product in brackets, or a power."""
    if re.fullmatch("[a-z]{1,8}", text):
        return True
    if text.startswith("["):
        return is_table(text) or is_power(text)
    if is_closed(text):
        return accepted(text[1:-1]) and is_product(text[1:-1])
    return is_power(text)


def is_table(text):
    """Whether a text is that of a table."""
    if not re.fullmatch(r"\[[-0-9,]*\]", text):
        return False
    offsets = text[1:-1].split(",")
    return 1 <= len(offsets) <= 60 and all(is_number(offset, 30) for offset in offsets)


def is_power(text):
    """Whether a text is that of a power."""
    base, sign, exponent = text.rpartition("^")
    if not sign or not is_number(exponent, 60):
        return False
    if is_closed(base):
        return accepted(base[1:-1]) and (is_product(base[1:-1]) or is_power(base[1:-1]))
    return bool(re.fullmatch("[a-z]{1,8}", base)) or is_table(base)


def is_number(text, most):
    """Whether a text is that of an integer of at most so many digits."""
    return bool(re.fullmatch("0|-?[1-9][0-9]*", text)) and len(text.lstrip("-")) <= most


def is_product(text):
    """Whether the accepted text is that of a product."""
    return len(split(text, " ")) > 1


def is_closed(text):
    """Whether one pair of brackets stands around the whole text."""
    if not (text.startswith("(") and text.endswith(")")):
        return False
    level = 0
    for at, sign in enumerate(text):
        level += (sign == "(") - (sign == ")")
        if level == 0:
            return at == len(text) - 1
    return False


def split(text, sign):
    """The parts of a text between the signs that stand in no round brackets, None if the brackets do not match."""
    parts, level = [""], 0
    for letter in text:
        level += (letter == "(") - (letter == ")")
        if level < 0:
            return None
        if letter == sign and level == 0:
            parts.append("")
        else:
            parts[-1] += letter
    return parts if level == 0 else None


def depth(text):
    """How many round brackets lie within each other."""
    level = most = 0
    for sign in text:
        level += (sign == "(") - (sign == ")")
        most = max(most, level)
    return most


# What completes a number, a name, a table or a power that a text breaks off.
ENDS = ("", "a", "1", "1]", "]", "^1")


@functools.lru_cache(maxsize=None)
def begins(text):
    """Whether some text of a formula begins with the text, as a search through what may follow it tells."""
    if split(text + ")" * (text.count("(") - text.count(")")), " ") is None:
        return False
    closings = itertools.product((")", " a)"), repeat=text.count("(") - text.count(")"))
    return any(accepted("".join([text, end, *closing, last]))
               for closing in closings for end in ENDS for last in ("", "^1"))


def fault(text):
    """The position that InvalidFormula must tell of a text, None if it is that of a formula."""
    if accepted(text):
        return None
    for many in range(1, len(text) + 1):
        if not begins(text[:many]):
            return many
    return len(text) + 1
