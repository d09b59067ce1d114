"""RATIOs: tuples (p, q) in lowest terms that stand for p/q."""

from math import gcd

from threeswaps.errors import InvalidRatio
from threeswaps.integers import check_integer, is_pair


def is_ratio(value):
    """Whether the value is a RATIO."""
    return is_pair(value) and value[1] >= 1 and gcd(value[0], value[1]) == 1


def ratio(numerator, denominator=1):
    """The RATIO with the value of numerator / denominator."""
    check_integer(numerator)
    check_integer(denominator)
    if denominator == 0:
        raise InvalidRatio((numerator, denominator))
    return _lowest(numerator, denominator)


def ratio_sum(*ratios):
    """The sum of the ratios, (0, 1) without any."""
    _check_ratios(ratios)
    top, bottom = 0, 1
    for numerator, denominator in ratios:
        top, bottom = _lowest(top * denominator + numerator * bottom, bottom * denominator)
    return (top, bottom)


def ratio_product(*ratios):
    """The product of the ratios, (1, 1) without any."""
    _check_ratios(ratios)
    top, bottom = 1, 1
    for numerator, denominator in ratios:
        top, bottom = _lowest(top * numerator, bottom * denominator)
    return (top, bottom)


def compare_ratios(left, right):
    """-1, 0 or 1 if left is less than right, equal, or greater."""
    _check_ratios((left, right))
    excess = left[0] * right[1] - right[0] * left[1]
    if excess == 0:
        return 0
    return 1 if excess > 0 else -1


def sorted_ratios(ratios):
    """A new list of the ratios in ascending order."""
    _check_ratios(ratios)
    widest = max([denominator for _, denominator in ratios], default=1)
    # Two values that differ lie at least 1 / (widest * widest) apart. Enlarged by so much they lie
    # at least 1 apart, so rounding them down to integers keeps them different and in their order.
    scale = widest * widest
    return sorted(ratios, key=lambda value: value[0] * scale // value[1])


def check_ratio(value):
    """Raise InvalidRatio(value) unless the value is a RATIO."""
    if not is_ratio(value):
        raise InvalidRatio(value)


def _check_ratios(values):
    """Raise InvalidRatio for the first of the values that is no RATIO."""
    for value in values:
        check_ratio(value)


def _lowest(numerator, denominator):
    """The RATIO with the value of numerator / denominator, which is not 0."""
    divisor = gcd(numerator, denominator)
    # A RATIO's denominator is positive, so a negative one hands its sign over to the numerator.
    if denominator < 0:
        divisor = -divisor
    return (numerator // divisor, denominator // divisor)
