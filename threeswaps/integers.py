"""INTEGERs, their common divisors and their common multiples."""

from math import gcd, lcm

from threeswaps.errors import InvalidInteger


def is_integer(value):
    """Whether the value is an INTEGER: an int that is not a bool."""
    return isinstance(value, int) and not isinstance(value, bool)


def is_pair(value):
    """Whether the value is a tuple of two INTEGERs."""
    return isinstance(value, tuple) and len(value) == 2 and is_integer(value[0]) and is_integer(value[1])


def check_integer(value, least=None):
    """Raise InvalidInteger(value) unless the value is an INTEGER, and not below least if that is given."""
    if not is_integer(value) or (least is not None and value < least):
        raise InvalidInteger(value)


def common_divisor(*numbers):
    """The greatest integer that divides all of the numbers, 0 if there is no number other than 0."""
    divisor = 0
    for number in numbers:
        check_integer(number)
        divisor = gcd(divisor, number)
    return divisor


def common_multiple(*numbers):
    """The least integer from 1 on that is a multiple of all of the numbers, each of them from 1 on."""
    multiple = 1
    for number in numbers:
        check_integer(number, 1)
        multiple = lcm(multiple, number)
    return multiple
