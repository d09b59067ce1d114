"""Couples: each line of a plan that goes up, with one that goes down, whatever their speeds are."""

from threeswaps.profiles import Profile
from threeswaps.ratios import ratio


class Couples:
    """The couples of the lines of a plan of which as many go up as down.

    The lines that go up are numbered from 0, by their speeds and then by their ranks, and so are those that go
    down. The two lines with one number are a couple.
    """

    def __init__(self, plan):
        profile = Profile.of(plan)
        self._lines = profile.lines()
        self._firsts = {speed: _before(profile, speed) for speed in profile.speeds()}

    def partner(self, speed, rank):
        """A tuple of the speed and the rank of the line that is coupled with a line."""
        number = self._firsts[speed] + rank
        found = [(other, number - first) for other, first in self._firsts.items()
                 if _goes_up(other) != _goes_up(speed) and 0 <= number - first < self._lines[other]]
        return found[0]


def strides(speed, other):
    """The least positive integers a and b such that a moves of one speed lead as far as b moves of the other one."""
    return ratio(abs(other[0]) * speed[1], abs(speed[0]) * other[1])


def _before(profile, speed):
    """How many lines go the same way as those of this speed and are numbered before them."""
    earlier = profile.speeds()[:profile.speeds().index(speed)]
    return sum([profile.lines_of(other) for other in earlier if _goes_up(other) == _goes_up(speed)])


def _goes_up(speed):
    return speed[0] > 0
