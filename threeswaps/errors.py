"""All error classes of the program.

The document allows just these subclass relations, so classes with equal constructors share no base
class for them.
"""


class ThreeswapsError(ValueError):
    """A value that was passed is not valid."""


class InvalidInteger(ThreeswapsError):
    """The value is no INTEGER, or it is below the bound for it."""

    def __init__(self, value):
        self.value = value


class InvalidRatio(ThreeswapsError):
    """The value is no RATIO, or no RATIO can be made of it."""

    def __init__(self, value):
        self.value = value


class InvalidTable(ThreeswapsError):
    """The offsets are no table; position and earlier tell the items that show it."""

    def __init__(self, problem, position, earlier):
        self.problem = problem
        self.position = position
        self.earlier = earlier


class InvalidPair(ThreeswapsError):
    """The pair with this number cannot be exchanged."""

    def __init__(self, position):
        self.position = position


class InvalidAddress(ThreeswapsError):
    """The value is not the address of a place."""

    def __init__(self, value):
        self.value = value


class InvalidProfile(ThreeswapsError):
    """The dicts are no profile; problem tells which part is wrong."""

    def __init__(self, problem):
        self.problem = problem


class InvalidFormula(ThreeswapsError):
    """The text is not that of a formula, as its characters up to position show."""

    def __init__(self, position):
        self.position = position


class InvalidValue(ThreeswapsError):
    """The value is no formula."""

    def __init__(self, value):
        self.value = value


class InvalidName(ThreeswapsError):
    """The value is no NAME."""

    def __init__(self, value):
        self.value = value


class InvalidLine(ThreeswapsError):
    """The value is no line that a desk knows."""

    def __init__(self, value):
        self.value = value


class AbsentError(LookupError):
    """What was asked for does not exist."""


class NoTrack(AbsentError):
    """There is no track with this key, a speed or a length, and this number."""

    def __init__(self, key, number):
        self.key = key
        self.number = number


class NoRenaming(AbsentError):
    """There is no renaming, as the difference that was found shows."""

    def __init__(self, found):
        self.found = found


class NoRoot(AbsentError):
    """There is no root, as the many lines of the speed key show."""

    def __init__(self, key, many):
        self.key = key
        self.many = many


class NoFactors(AbsentError):
    """There are no such factors, as more lines go up than down; excess tells how many more."""

    def __init__(self, excess):
        self.excess = excess


class UnknownName(AbsentError):
    """There is no plan with this name."""

    def __init__(self, name):
        self.name = name


class NothingToUndo(AbsentError):
    """No change is remembered."""

    def __init__(self):
        """Take no arguments, as there is nothing to tell."""


class LimitError(ArithmeticError):
    """An answer would be larger than the document allows."""


class TooLong(LimitError):
    """A period would be this multiple, which is above the greatest one."""

    def __init__(self, multiple):
        self.multiple = multiple


class TooMany(LimitError):
    """There are so many that they are not told one by one."""

    def __init__(self, many):
        self.many = many
