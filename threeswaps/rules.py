"""Rules: moves of all places that are asked place by place, without a table."""

from threeswaps.integers import check_integer
from threeswaps.plans import Plan, check_period


class Rule:
    """The base class of all rules. A class of rules defines _forth(x) and _home(x), which move x and move it back."""

    def __init__(self, period):
        self._period = period

    @property
    def period(self):
        """A shift of all places under which the rule looks the same."""
        return self._period

    def at(self, x):
        """The place to which x is moved."""
        check_integer(x)
        return self._forth(x)

    def __call__(self, x):
        return self.at(x)

    def back(self, x):
        """The place that is moved to x."""
        check_integer(x)
        return self._home(x)


class PlainRule(Rule):
    """A rule that moves x + P to the place P above that of x, for its period P and all x."""

    def plan(self):
        """The plan that moves all places like the rule."""
        check_period(self.period)
        return Plan([self.at(x) - x for x in range(self.period)])


def moved_by(moves, x):
    """The place to which the moves, one after another, move x."""
    place = x
    for move in moves:
        place = move.at(place)
    return place
