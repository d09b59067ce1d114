"""Mirrors: moves that turn the order of the places round, and the products of all moves."""

from threeswaps.integers import check_integer, common_multiple
from threeswaps.plans import Move, Plan, check_period, checked_table
from threeswaps.rules import moved_by
from threeswaps.tables import moved, returning_table, table_text


class Mirror(Move):
    """The mirror with a table: it moves x to -x and up by the offset of the remainder of x."""

    SIGN = -1

    def __init__(self, offsets):
        self._offsets = checked_table(offsets, self.SIGN)
        self._returns = returning_table(self._offsets, self.SIGN)

    @classmethod
    def around(cls, n):
        """The mirror that moves x to n - x."""
        check_integer(n)
        return cls([n])

    @property
    def period(self):
        """The least number of offsets of a table of this mirror."""
        return len(self._offsets)

    def offsets(self):
        """The list of the offsets at the period."""
        return list(self._offsets)

    def at(self, x):
        """The place to which x is moved."""
        check_integer(x)
        return moved(self._offsets, self.SIGN, x)

    def __call__(self, x):
        return self.at(x)

    def back(self, x):
        """The place that is moved to x."""
        check_integer(x)
        return moved(self._returns, self.SIGN, x)

    def inverse(self):
        """The mirror that moves each place back."""
        return Mirror(self._returns)

    def __eq__(self, other):
        return isinstance(other, Mirror) and self._offsets == other._offsets

    def __len__(self):
        return len(self._offsets)

    def __str__(self):
        return f"-{table_text(self._offsets)}"

    def __repr__(self):
        return f"Mirror({self._offsets!r})"


def moves_product(*moves):
    """The plan or the mirror that does all the moves, one after another."""
    periods = [move.period for move in moves]
    period = common_multiple(*periods)
    check_period(period)
    places = [moved_by(moves, x) for x in range(period)]
    if len([move for move in moves if move.SIGN == Mirror.SIGN]) % 2 == 0:
        return Plan([place - x for x, place in enumerate(places)])
    return Mirror([place + x for x, place in enumerate(places)])


def move_power(move, n):
    """The move that does the given one n times, or moves back -n times if n is negative."""
    check_integer(n)
    twice = moves_product(move, move).power(n // 2)
    return twice if n % 2 == 0 else moves_product(twice, move)


def mirrored(plan):
    """The plan that moves -x to -y where the given one moves x to y."""
    return Plan([-plan.at(-x) - x for x in range(plan.period)])
