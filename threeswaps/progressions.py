"""Progressions: the places start + k * step, for all integers k, and those of them in a window."""


def first_from(start, step, first):
    """The least place of the progression that is at least first."""
    return first + (start - first) % step


def count_between(start, step, first, last):
    """How many places of the progression are at least first and less than last."""
    return max(0, (last - first_from(start, step, first) + step - 1) // step)


def places_between(start, step, first, last):
    """The ascending list of the places of the progression that are at least first and less than last."""
    return list(range(first_from(start, step, first), last, step))
