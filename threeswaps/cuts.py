"""Cuts between two places: what a plan carries across them, and how it is delayed to carry nothing down."""

from threeswaps.errors import TooMany
from threeswaps.integers import check_integer
from threeswaps.plans import Plan
from threeswaps.progressions import count_between, places_between


def up(plan, cut):
    """How many places are carried up across the cut."""
    check_integer(cut)
    return _count(plan, _rising(plan, cut))


def down(plan, cut):
    """How many places are carried down across the cut."""
    check_integer(cut)
    return _count(plan, _falling(plan, cut))


def carried_up(plan, cut, most=100):
    """The ascending list of the places that are carried up across the cut."""
    check_integer(cut)
    return _listed(plan, _rising(plan, cut), most)


def carried_down(plan, cut, most=100):
    """The ascending list of the places that are carried down across the cut."""
    check_integer(cut)
    return _listed(plan, _falling(plan, cut), most)


def delay(plan):
    """The least number from 0 on by which the plan must be delayed so that no place is moved down."""
    return max(0, -min(plan.offsets()))


def delayed(plan):
    """The plan that moves each place more upward than the given one, by its delay."""
    late = delay(plan)
    return Plan([offset + late for offset in plan.offsets()])


def holds(plan):
    """How many places the delayed plan carries up across each cut."""
    return delayed(plan).flow


def _rising(plan, cut):
    """For each remainder the bounds between which its places are carried up; turned about if there are none."""
    return [(remainder, cut - offset, cut) for remainder, offset in enumerate(plan.offsets())]


def _falling(plan, cut):
    """For each remainder the bounds between which its places are carried down; turned about if there are none."""
    return [(remainder, cut, cut - offset) for remainder, offset in enumerate(plan.offsets())]


def _count(plan, windows):
    """How many places of each remainder lie in its window, all together."""
    return sum([count_between(start, plan.period, first, last) for start, first, last in windows])


def _listed(plan, windows, most):
    """The ascending list of the places in the windows, of which there are to be at most most."""
    check_integer(most, 0)
    many = _count(plan, windows)
    if many > most:
        raise TooMany(many)
    lists = [places_between(start, plan.period, first, last) for start, first, last in windows]
    return sorted([place for places in lists for place in places])
