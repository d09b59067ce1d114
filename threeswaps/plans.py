"""Plans: moves of all places by offsets that depend on the remainder of the place alone."""

from threeswaps.cycles import cycles_of
from threeswaps.errors import InvalidTable, TooLong
from threeswaps.integers import check_integer, common_multiple
from threeswaps.tables import check_offsets, least_table, moved, returning_table, swapping_table, table_text


class Move:
    """The base class of the moves that have a table. It is not called."""

    MAX_PERIOD = 2520


class Plan(Move):
    """The plan with a table: it moves each place up by the offset of its remainder."""

    SIGN = 1

    def __init__(self, offsets):
        self._offsets = checked_table(offsets, self.SIGN)
        self._returns = returning_table(self._offsets, self.SIGN)

    @classmethod
    def identity(cls):
        """The plan that moves nothing."""
        return cls([0])

    @classmethod
    def shift(cls, n):
        """The plan that moves each place up by n."""
        check_integer(n)
        return cls([n])

    @classmethod
    def swapping(cls, period, *pairs):
        """The plan that exchanges the two places of each pair, also k * period above them, for all k."""
        check_integer(period, 1)
        check_period(period)
        return cls(swapping_table(period, pairs))

    @property
    def period(self):
        """The least number of offsets of a table of this plan."""
        return len(self._offsets)

    @property
    def flow(self):
        """How many more things go up than down across each cut."""
        return sum(self._offsets) // len(self._offsets)

    def offsets(self):
        """The list of the offsets at the period."""
        return list(self._offsets)

    def at(self, x):
        """The place to which x is moved."""
        check_integer(x)
        return moved(self._offsets, self.SIGN, x)

    def __call__(self, x):
        return self.at(x)

    def back(self, x):
        """The place that is moved to x."""
        check_integer(x)
        return moved(self._returns, self.SIGN, x)

    def inverse(self):
        """The plan that moves each place back."""
        return Plan(self._returns)

    def then(self, other):
        """The plan that does this plan first and then the other one."""
        return product(self, other)

    def power(self, n):
        """The plan that does this plan n times, or moves back -n times if n is negative."""
        check_integer(n)
        table = self.offsets()
        for cycle in cycles_of(self._offsets):
            for at, remainder in enumerate(cycle.remainders):
                table[remainder] = cycle.sum_to(at + n) - cycle.sum_to(at)
        return Plan(table)

    def renamed(self, by):
        """The plan that moves by(x) to by(y) where this plan moves x to y."""
        return product(by.inverse(), self, by)

    def __mul__(self, other):
        return self.then(other)

    def __eq__(self, other):
        return isinstance(other, Plan) and self._offsets == other._offsets

    def __len__(self):
        return len(self._offsets)

    def __str__(self):
        return str(table_text(self._offsets))

    def __repr__(self):
        return f"Plan({self._offsets!r})"


def check_period(period):
    """Raise TooLong if the period is greater than that of any move."""
    if period > Move.MAX_PERIOD:
        raise TooLong(period)


def checked_table(offsets, sign):
    """The offsets at the period of the move with this table and this sign; errors if it is none."""
    if not isinstance(offsets, (list, tuple)) or len(offsets) == 0:
        raise InvalidTable("table", None, None)
    check_period(len(offsets))
    check_offsets(offsets, sign)
    return least_table(offsets)


def product(*plans):
    """The plan that does all the plans, one after another."""
    tables = [plan.offsets() for plan in plans]
    periods = [len(table) for table in tables]
    period = common_multiple(*periods)
    # The product may have a smaller period, but the document bounds what is tried, not what is found.
    check_period(period)
    return Plan([_moved_by_all(tables, x) - x for x in range(period)])


def _moved_by_all(tables, x):
    """The place to which the tables, one after another, move x."""
    place = x
    for table in tables:
        place = moved(table, Plan.SIGN, place)
    return place
