"""Swaps and closed plans: how few of them make a plan, and which."""

from threeswaps.errors import NoFactors
from threeswaps.integers import check_integer
from threeswaps.plans import Plan, product
from threeswaps.profiles import Profile
from threeswaps.ratios import sorted_ratios
from threeswaps.rules import PlainRule, moved_by
from threeswaps.seats import keeping_shift, opposite_speed
from threeswaps.tracks import Tracks
from threeswaps.turnings import Crossing, Opposing, Unwinding


class Swap(PlainRule):
    """The rule that does some moves one after another, which together are their own inverse."""

    def __init__(self, period, *moves):
        super().__init__(period)
        self._moves = moves

    def _forth(self, x):
        return moved_by(self._moves, x)

    def _home(self, x):
        return self._forth(x)


class ClosedRule(PlainRule):
    """The rule that does some moves one after another, which together have only rounds."""

    def __init__(self, period, rounds, *moves):
        super().__init__(period)
        self._rounds = rounds
        self._moves = moves

    def length_at(self, x):
        """The length of the round of x."""
        check_integer(x)
        return self._rounds.length(x)

    def _forth(self, x):
        return moved_by(self._moves, x)

    def _home(self, x):
        place = x
        for move in self._moves[::-1]:
            place = move.back(place)
        return place


def fewest_swaps(plan):
    """The least number of swaps whose product is the plan, None if there is none."""
    if plan == Plan.identity():
        return 0
    if _is_swap(plan):
        return 1
    if not unpaired(plan):
        return 2
    return 3 if plan.flow == 0 else None


def unpaired(plan):
    """The list of the tuples (v, N, M) for the positive speeds v with N lines, and M of -v, N and M being different."""
    profile = Profile.of(plan)
    ups = [speed for speed in profile.speeds() if speed[0] > 0]
    downs = [opposite_speed(speed) for speed in profile.speeds() if speed[0] < 0]
    speeds = sorted_ratios(ups + [speed for speed in downs if speed not in ups])
    rows = [(speed, profile.lines_of(speed), profile.lines_of(opposite_speed(speed))) for speed in speeds]
    return [row for row in rows if row[1] != row[2]]


def swap_factors(plan):
    """As few Swaps as possible whose product is the plan."""
    fewest = fewest_swaps(plan)
    if fewest is None:
        raise NoFactors(plan.flow)
    if fewest == 0:
        return []
    if fewest == 1:
        return [Swap(plan.period, plan)]
    period = keeping_shift(plan)
    if fewest == 2:
        opposing = Opposing(plan)
        return [Swap(period, plan, opposing), Swap(period, opposing)]
    crossing, unwinding = Crossing(plan), Unwinding(plan)
    return [Swap(period, plan, crossing, unwinding), Swap(period, unwinding), Swap(period, crossing)]


def fewest_closed(plan):
    """The least number of closed plans whose product is the plan, None if there is none."""
    if plan == Plan.identity():
        return 0
    if _is_closed(plan):
        return 1
    return 2 if plan.flow == 0 else None


def closed_factors(plan):
    """As few ClosedRules as possible whose product is the plan."""
    fewest = fewest_closed(plan)
    if fewest is None:
        raise NoFactors(plan.flow)
    if fewest == 0:
        return []
    if fewest == 1:
        return [ClosedRule(plan.period, Tracks(plan), plan)]
    period = keeping_shift(plan)
    crossing = Crossing(plan)
    return [ClosedRule(period, Unwinding(plan), plan, crossing), ClosedRule(period, crossing, crossing)]


def is_factoring(plan, factors, *, closed=False):
    """Whether the product of the factors is the plan, and each of them is a swap, or is closed if that is asked."""
    made = product(*factors)
    fitting = [_is_closed(factor) if closed else _is_swap(factor) for factor in factors]
    return made == plan and all(fitting)


def _is_swap(plan):
    return plan == plan.inverse()


def _is_closed(plan):
    return not Profile.of(plan).speeds()
