"""Renamings: rules that turn one plan into another one with the same profile."""

from threeswaps.errors import NoRenaming
from threeswaps.integers import common_multiple
from threeswaps.plans import check_period
from threeswaps.profiles import Profile
from threeswaps.rules import PlainRule
from threeswaps.seats import Seats, keeping_shift


class Renaming(PlainRule):
    """The rule that leads each track of one to the track of other with the same speed or length and the same rank."""

    def __init__(self, one, other):
        found = Profile.of(one).first_difference(Profile.of(other))
        if found is not None:
            raise NoRenaming(found)
        super().__init__(common_multiple(keeping_shift(one), keeping_shift(other)))
        self._one = Seats(one)
        self._other = Seats(other)

    def _forth(self, x):
        return self._other.place_of(self._one.seat_of(x))

    def _home(self, x):
        return self._one.place_of(self._other.seat_of(x))


def alike(one, other):
    """Whether there is a renaming of one to other."""
    return Profile.of(one) == Profile.of(other)


def renaming_fault(one, other, by):
    """The least x from 0 on at which the plan by is seen to be no renaming of one to other, None if it is one."""
    period = common_multiple(one.period, other.period, by.period)
    check_period(period)
    for x in range(period):
        if by.at(one.at(x)) != other.at(by.at(x)):
            return x
    return None


def shortest(plan):
    """A tuple: a plan with the same profile and the least period of all of them, and a renaming to it."""
    least = Profile.of(plan).plan()
    return (least, Renaming(plan, least))
