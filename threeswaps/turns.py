"""Mirror rules, and the moves that are their own inverses of which each move is a product."""

from threeswaps.errors import NoRenaming
from threeswaps.integers import common_multiple
from threeswaps.mirrors import Mirror, moves_product
from threeswaps.plans import Plan, check_period
from threeswaps.profiles import Profile
from threeswaps.rules import Rule, moved_by
from threeswaps.seats import Seats, keeping_shift, opposite_speed
from threeswaps.swaps import Swap
from threeswaps.turnings import Facing, Reversing


class MirrorRule(Rule):
    """A rule that moves x + P to the place P below that of x, for its period P and all x."""

    def mirror(self):
        """The mirror that moves all places like the rule."""
        check_period(self.period)
        return Mirror([self.at(x) + x for x in range(self.period)])


class MirrorRenaming(MirrorRule):
    """The mirror rule that leads the lines of one to those of other with the opposite speed and the same rank.

    The rounds are led to those of the opposite rank, as other goes the other way through the ranks.
    """

    def __init__(self, one, other):
        found = Profile.of(one).first_difference(Profile.of(other).opposite())
        if found is not None:
            raise NoRenaming(found)
        super().__init__(common_multiple(keeping_shift(one), keeping_shift(other)))
        self._one = Seats(one)
        self._other = Seats(other)

    def _forth(self, x):
        return self._other.place_of(_facing_seat(self._one.seat_of(x)))

    def _home(self, x):
        return self._one.place_of(_facing_seat(self._other.seat_of(x)))


class MirrorSwap(MirrorRule):
    """The mirror rule that does some moves one after another, which together are their own inverse."""

    def __init__(self, period, *moves):
        super().__init__(period)
        self._moves = moves

    def _forth(self, x):
        return moved_by(self._moves, x)

    def _home(self, x):
        return self._forth(x)


def mirror_factors(plan):
    """Two MirrorRules that are their own inverses, whose product is the plan."""
    period = keeping_shift(plan)
    reversing = Reversing(plan)
    return [MirrorSwap(period, plan, reversing), MirrorSwap(period, reversing)]


def turn_factors(move):
    """As few turns as possible whose product is the move: none, the move itself, or two rules."""
    if move == Plan.identity():
        return []
    if move == move.inverse():
        return [move]
    if move.SIGN == Plan.SIGN:
        return mirror_factors(move)
    period = common_multiple(move.period, keeping_shift(moves_product(move, move)))
    facing = Facing(move)
    return [MirrorSwap(period, move, facing), Swap(period, facing)]


def _facing_seat(seat):
    """The seat that a seat of one plan has after a mirror renaming to another one, or before it."""
    kind, key, rank, index = seat
    if kind == "line":
        return (kind, opposite_speed(key), rank, index)
    return (kind, key, -rank, index)
