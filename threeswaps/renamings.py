"""Renamings: rules that turn one plan into another one with the same profile."""

from threeswaps.errors import NoRenaming
from threeswaps.integers import common_multiple
from threeswaps.plans import check_period
from threeswaps.profiles import Profile
from threeswaps.rules import PlainRule
from threeswaps.tracks import Tracks


class Renaming(PlainRule):
    """The rule that leads each track of one to the track of other with the same speed or length and the same rank."""

    def __init__(self, one, other):
        found = Profile.of(one).first_difference(Profile.of(other))
        if found is not None:
            raise NoRenaming(found)
        super().__init__(common_multiple(_keeping_shift(one), _keeping_shift(other)))
        self._one = Tracks(one)
        self._other = Tracks(other)

    def _forth(self, x):
        return _led(self._one, self._other, x)

    def _home(self, x):
        return _led(self._other, self._one, x)


def alike(one, other):
    """Whether there is a renaming of one to other."""
    return Profile.of(one) == Profile.of(other)


def renaming_fault(one, other, by):
    """The least x from 0 on at which the plan by is seen to be no renaming of one to other, None if it is one."""
    period = common_multiple(one.period, other.period, by.period)
    check_period(period)
    for x in range(period):
        if by.at(one.at(x)) != other.at(by.at(x)):
            return x
    return None


def shortest(plan):
    """A tuple: a plan with the same profile and the least period of all of them, and a renaming to it."""
    least = Profile.of(plan).plan()
    return (least, Renaming(plan, least))


def _led(source, target, x):
    """The place with the index of x on the track of target that has the key and rank of the track of x."""
    length = source.length(x)
    if length is None:
        base = target.base(source.speed(x), source.rank(x))
    else:
        base = target.round_base(length, source.rank(x))
    return target.after(base, source.address(x)[3])


def _keeping_shift(plan):
    """A shift of all places that leads each line of the plan to itself and keeps the index on each round.

    A shift by period * drift keeps the lanes of a cycle. It raises the indexes of a line by the shift divided
    by the speed, and the ranks of the rounds of a length by the shift times their density, whatever the plan is.
    """
    drifts = [max(1, abs(drift)) for _, drift in Tracks(plan).cycles()]
    return plan.period * common_multiple(*drifts)
