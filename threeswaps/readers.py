"""Readers: they read the text of a formula sign by sign, and find the first sign that cannot stand in one."""

from threeswaps.errors import InvalidFormula

LETTERS = "abcdefghijklmnopqrstuvwxyz"
DIGITS = "0123456789"
FIRST_DIGITS = "123456789"
MOST_LETTERS = 8
MOST_OFFSETS = 60
MOST_FACTORS = 12
MOST_BRACKETS = 6
OFFSET_DIGITS = 30
EXPONENT_DIGITS = 60


class Reader:
    """A reader of one text. It takes a sign only where the text of some formula begins with all that it has taken.

    So it never goes back, and the sign at which it stops is the one that the error tells.
    """

    def __init__(self, text):
        self._text = text
        self._at = 0

    def whole(self):
        """The formula with this text."""
        formula = self._sequence(0)
        if self._at < len(self._text):
            raise InvalidFormula(self._at + 1)
        return formula

    def _sequence(self, brackets):
        """The formula that stands within so many brackets, up to the innermost closing one or the end."""
        factors = [self._factor(brackets)]
        while len(factors) < MOST_FACTORS and self._takes(" "):
            factors.append(self._factor(brackets))
        if len(factors) > 1:
            return ("product", tuple(factors))
        # Brackets stand around products and powers alone, and a product has none if it is no part of another formula.
        if factors[0][0] == "product" or (brackets > 0 and factors[0][0] != "power"):
            raise InvalidFormula(self._at + 1)
        return factors[0]

    def _factor(self, brackets):
        """A name, a table, a formula in brackets, or a power of one of these."""
        if brackets < MOST_BRACKETS and self._takes("("):
            base = self._sequence(brackets + 1)
            self._take(")")
        elif self._takes("["):
            base = self._table()
        else:
            base = ("name", self._some(LETTERS, MOST_LETTERS))
        # A power stands in brackets only where a power of it is taken.
        if base[0] == "power" or self._is_next("^"):
            self._take("^")
            return ("power", base, self._integer(EXPONENT_DIGITS))
        return base

    def _table(self):
        """The rest of a table behind its opening bracket."""
        offsets = [self._integer(OFFSET_DIGITS)]
        while len(offsets) < MOST_OFFSETS and self._takes(","):
            offsets.append(self._integer(OFFSET_DIGITS))
        self._take("]")
        return ("table", tuple(offsets))

    def _integer(self, most):
        """An integer of at most so many digits."""
        if self._takes("0"):
            return 0
        minus = "-" if self._takes("-") else ""
        first = self._some(FIRST_DIGITS, 1)
        return int(minus + first + self._run(DIGITS, most - 1))

    def _some(self, signs, most):
        """As many of these signs as follow, at least one and at most so many."""
        if not self._is_next(signs):
            raise InvalidFormula(self._at + 1)
        return self._run(signs, most)

    def _run(self, signs, most):
        """As many of these signs as follow, at most so many."""
        start = self._at
        while self._at - start < most and self._is_next(signs):
            self._at = self._at + 1
        return self._text[start:self._at]

    def _take(self, sign):
        """Take the sign that must follow."""
        if not self._takes(sign):
            raise InvalidFormula(self._at + 1)

    def _takes(self, sign):
        """Take the sign if it follows, and tell whether it does."""
        found = self._is_next(sign)
        if found:
            self._at = self._at + 1
        return found

    def _is_next(self, signs):
        """Whether one of the signs follows."""
        return self._at < len(self._text) and self._text[self._at] in signs
