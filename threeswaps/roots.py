"""Roots of plans, and which powers of one plan another one is."""

from threeswaps.errors import NoRoot
from threeswaps.integers import check_integer, common_divisor, common_multiple
from threeswaps.profiles import Profile
from threeswaps.rules import PlainRule
from threeswaps.seats import Seats, keeping_shift
from threeswaps.tracks import Tracks


class Root(PlainRule):
    """A root of order k of a plan: it leads through tracks of neighbouring ranks, which it joins to one track.

    It joins k lines of one speed, and of the rounds of one length only as many as it must: so many that what is
    left of k has no divisor in common with the length. A root of that order is a power on each round.
    """

    def __init__(self, plan, k):
        check_integer(k, 1)
        profile = Profile.of(plan)
        for speed in profile.speeds():
            if profile.lines_of(speed) % k != 0:
                raise NoRoot(speed, profile.lines_of(speed))
        self._k = k
        self._joints = {length: _joint(length, k) for length in profile.lengths()}
        self._seats = Seats(plan)
        super().__init__(keeping_shift(plan) * self._laps(profile, keeping_shift(plan)))

    def _forth(self, x):
        kind, key, rank, index = self._seats.seat_of(x)
        many, steps = self._joint_of(kind, key)
        if rank % many < many - 1:
            return self._seats.place_of((kind, key, rank + 1, index))
        return self._seats.place_of((kind, key, rank + 1 - many, index + steps))

    def _home(self, x):
        kind, key, rank, index = self._seats.seat_of(x)
        many, steps = self._joint_of(kind, key)
        if rank % many > 0:
            return self._seats.place_of((kind, key, rank - 1, index))
        return self._seats.place_of((kind, key, rank - 1 + many, index - steps))

    def _joint_of(self, kind, key):
        """How many tracks are joined, and by how much the index is raised once all of them are passed."""
        return (self._k, 1) if kind == "line" else self._joints[key]

    def _laps(self, profile, shift):
        """How often the shift is done at least until it leads joined rounds to joined rounds of each length."""
        laps = 1
        for length in profile.lengths():
            top, bottom = profile.density(length)
            many, _ = self._joints[length]
            laps = common_multiple(laps, many // common_divisor(many, shift * top // bottom))
        return laps


def root_bound(plan):
    """The greatest common divisor of the numbers of lines of all speeds, 0 without lines."""
    numbers = list(Profile.of(plan).lines().values())
    return common_divisor(*numbers)


def is_root(plan, k, by):
    """Whether the plan by is a root of order k of the plan."""
    check_integer(k, 1)
    return by.power(k) == plan


def order(plan):
    """The least number from 1 on whose power is the identity, None if the plan has lines."""
    profile = Profile.of(plan)
    if profile.speeds():
        return None
    lengths = profile.lengths()
    return common_multiple(*lengths)


def exponent(one, other):
    """A tuple of the exponent of one that gives other and of what it is modulo, 0 if one has lines; None without."""
    n = _candidate(one, other)
    if n is None or one.power(n) != other:
        return None
    modulus = order(one)
    return (n, 0 if modulus is None else modulus)


def _candidate(one, other):
    """The exponent that the tracks of some places demand; None if they demand what cannot be."""
    tracks = Tracks(one)
    n, modulus = 0, 1
    for cycle, drift in tracks.cycles():
        steps = tracks.steps(cycle[0], other.at(cycle[0]))
        if steps is None or drift != 0:
            return steps
        n = _joined(n, modulus, steps, len(cycle))
        if n is None:
            return None
        modulus = common_multiple(modulus, len(cycle))
    return n


def _joined(n, modulus, remainder, length):
    """The least number from n on that is n modulo the modulus and has this remainder modulo the length, or None."""
    found = [n + k * modulus for k in range(length) if (n + k * modulus) % length == remainder]
    return found[0] if found else None


def _joint(length, k):
    """How many rounds of this length a root of order k joins, and the power of the plan that their root is then."""
    many, left = 1, k
    while common_divisor(left, length) > 1:
        many = many * common_divisor(left, length)
        left = left // common_divisor(left, length)
    powers = [n for n in range(length) if (n * left - 1) % length == 0]
    return many, powers[0]
