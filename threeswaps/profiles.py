"""Profiles: how many lines of each speed a plan has, and how dense its rounds of each length are."""

from threeswaps.errors import InvalidProfile
from threeswaps.integers import check_integer, common_divisor, common_multiple, is_integer
from threeswaps.plans import Plan, check_period
from threeswaps.ratios import check_ratio, is_ratio, ratio, ratio_product, ratio_sum, sorted_ratios
from threeswaps.tracks import Tracks


class Profile:
    """The numbers of lines by their speeds, and the densities of rounds by their lengths."""

    def __init__(self, lines, rounds):
        if profile_sum(lines, rounds) != (1, 1):
            raise InvalidProfile("sum")
        self._lines = {speed: lines[speed] for speed in sorted_ratios(list(lines))}
        self._rounds = {length: rounds[length] for length in sorted(list(rounds))}

    @classmethod
    def of(cls, plan):
        """The profile of the plan."""
        lines = {}
        rounds = {}
        for cycle, drift in Tracks(plan).cycles():
            length = len(cycle)
            if drift == 0:
                rounds[length] = ratio_sum(rounds.get(length, (0, 1)), (1, plan.period))
            else:
                speed = ratio(plan.period * drift, length)
                lines[speed] = lines.get(speed, 0) + abs(drift)
        return cls(lines, rounds)

    @classmethod
    def identity(cls):
        """The profile of the identity."""
        return cls({}, {1: (1, 1)})

    @property
    def flow(self):
        """How many more lines go up than down."""
        return sum([many if top > 0 else -many for (top, _), many in self._lines.items()])

    @property
    def least_period(self):
        """The least period of the plans with this profile."""
        of_lines = [abs(top) // common_divisor(top, many) for (top, _), many in self._lines.items()]
        numbers = of_lines + [bottom for _, bottom in self._rounds.values()]
        return common_multiple(*numbers)

    def lines(self):
        """The dict from the speeds to the numbers of lines."""
        return {speed: self._lines[speed] for speed in self._lines}

    def rounds(self):
        """The dict from the lengths to the densities of rounds."""
        return {length: self._rounds[length] for length in self._rounds}

    def speeds(self):
        """The ascending list of the speeds of the lines."""
        return list(self._lines)

    def lengths(self):
        """The ascending list of the lengths of the rounds."""
        return list(self._rounds)

    def lines_of(self, speed):
        """The number of lines with this speed."""
        check_ratio(speed)
        return self._lines.get(speed, 0)

    def density(self, length):
        """The density of the rounds with this length."""
        check_integer(length, 1)
        return self._rounds.get(length, (0, 1))

    def power(self, n):
        """The profile of the power n of each plan with this profile."""
        check_integer(n)
        if n == 0:
            return Profile.identity()
        lines = {ratio_product(speed, (n, 1)): self._lines[speed] * abs(n) for speed in self._lines}
        rounds = {}
        for length in self._rounds:
            parts = common_divisor(length, n)
            density = ratio_product(self._rounds[length], (parts, 1))
            rounds[length // parts] = ratio_sum(rounds.get(length // parts, (0, 1)), density)
        return Profile(lines, rounds)

    def opposite(self):
        """The profile of the inverse of each plan with this profile."""
        return self.power(-1)

    def plan(self):
        """A plan with this profile and the least period: its cycles take the remainders in their sequence."""
        period = self.least_period
        check_period(period)
        table = []
        for (top, bottom), many in self._lines.items():
            drift = many if top > 0 else -many
            table = table + _cycle_offsets(period * many * bottom // abs(top), period * drift)
        for length, (top, bottom) in self._rounds.items():
            table = table + _cycle_offsets(length, 0) * (period * top // bottom)
        return Plan(table)

    def first_difference(self, other):
        """The first speed or length of which the two profiles have different numbers, None if they are equal."""
        for speed in sorted_ratios(self.speeds() + other.speeds()):
            here, there = self.lines_of(speed), other.lines_of(speed)
            if here != there:
                return ("speed", speed, here, there)
        for length in sorted(self.lengths() + other.lengths()):
            here, there = self.density(length), other.density(length)
            if here != there:
                return ("length", length, here, there)
        return None

    def __eq__(self, other):
        return isinstance(other, Profile) and self._lines == other._lines and self._rounds == other._rounds

    def __str__(self):
        return ", ".join(self._parts())

    def _parts(self):
        """The texts of the lines of each speed and of the rounds of each length."""
        lines = [f"{_ratio_text(speed)}:{many}" for speed, many in self._lines.items()]
        rounds = [f"({length}):{_ratio_text(density)}" for length, density in self._rounds.items()]
        return lines + rounds


def profile_sum(lines, rounds):
    """The sum of what the lines and rounds take of each place; it is 1 for a profile."""
    if not _is_lines(lines):
        raise InvalidProfile("lines")
    if not _is_rounds(rounds):
        raise InvalidProfile("rounds")
    of_lines = [ratio(many * bottom, abs(top)) for (top, bottom), many in lines.items()]
    shares = of_lines + [ratio_product((length, 1), density) for length, density in rounds.items()]
    return ratio_sum(*shares)


def _is_lines(value):
    """Whether the value is a dict from RATIOs other than 0 to INTEGERs from 1 on."""
    if not isinstance(value, dict):
        return False
    return all([is_ratio(speed) and speed[0] != 0 and is_integer(many) and many >= 1
                for speed, many in value.items()])


def _is_rounds(value):
    """Whether the value is a dict from INTEGERs from 1 on to RATIOs above 0."""
    if not isinstance(value, dict):
        return False
    return all([is_integer(length) and length >= 1 and is_ratio(density) and density[0] > 0
                for length, density in value.items()])


def _cycle_offsets(length, total):
    """Offsets that lead through so many neighbouring remainders, and up by the total each time around."""
    return [1] * (length - 1) + [total + 1 - length]


def _ratio_text(value):
    """The text of a RATIO: p/q, or p if q is 1."""
    top, bottom = value
    return str(top) if bottom == 1 else f"{top}/{bottom}"
