"""Tracks: the rounds and lines on which a plan moves the places."""

from threeswaps.cycles import cycles_of
from threeswaps.errors import InvalidAddress, NoTrack
from threeswaps.integers import check_integer, is_integer
from threeswaps.progressions import count_between, first_from
from threeswaps.ratios import check_ratio, ratio


class Tracks:
    """The tracks of a plan, and where each place lies on them."""

    def __init__(self, plan):
        self._period = plan.period
        self._cycles = cycles_of(plan.offsets())
        self._spots = {}
        self._fleets = {}
        self._rings = {}
        for number, cycle in enumerate(self._cycles):
            for at, remainder in enumerate(cycle.remainders):
                self._spots[remainder] = (number, at)
            if cycle.drift == 0:
                self._rings.setdefault(cycle.size, []).append(number)
            else:
                self._fleets.setdefault(self._speed_of(cycle), []).append(number)

    def cycles(self):
        """The list of the tuples of a cycle, as the tuple of its remainders, and its drift."""
        return [(cycle.remainders, cycle.drift) for cycle in self._cycles]

    @property
    def up(self):
        """How many lines go up."""
        return sum([cycle.drift for cycle in self._cycles if cycle.drift > 0])

    @property
    def down(self):
        """How many lines go down."""
        return -sum([cycle.drift for cycle in self._cycles if cycle.drift < 0])

    def address(self, x):
        """The address of x."""
        check_integer(x)
        number, at = self._spots[x % self._period]
        cycle = self._cycles[number]
        block = (x - self._place_at(number, 0, at)) // self._period
        if cycle.drift == 0:
            return ("round", number, block, at)
        lane = block % abs(cycle.drift)
        return ("line", number, lane, at + cycle.size * ((block - lane) // cycle.drift))

    def place(self, address):
        """The place with this address."""
        if not self._is_address(address):
            raise InvalidAddress(address)
        _, number, block, index = address
        return self._place_at(number, block, index)

    def after(self, x, n):
        """The place to which the power n of the plan moves x."""
        _, number, block, index = self.address(x)
        check_integer(n)
        return self._place_at(number, block, index + n)

    def steps(self, x, y):
        """The n whose power moves x to y, the least from 0 on if they are on a round; None on different tracks."""
        *track, start = self.address(x)
        *other, end = self.address(y)
        if track != other:
            return None
        length = self.length(x)
        return end - start if length is None else (end - start) % length

    def on_one_track(self, x, y):
        """Whether x and y are on the same track."""
        return self.steps(x, y) is not None

    def speed(self, x):
        """The speed of the track of x."""
        return self._speed_of(self._cycle_at(x))

    def length(self, x):
        """The length of the round of x, None on a line."""
        cycle = self._cycle_at(x)
        return cycle.size if cycle.drift == 0 else None

    def rank(self, x):
        """The rank of the track of x, among the lines of its speed or among the rounds of its length."""
        kind, number, block, _ = self.address(x)
        cycle = self._cycles[number]
        if kind == "round":
            ring = self._rings[cycle.size]
            return len(ring) * block + ring.index(number)
        fleet = self._fleets[self._speed_of(cycle)]
        return self._many_lines([earlier for earlier in fleet if earlier < number]) + block

    def lines(self, speed):
        """How many lines have this speed."""
        check_ratio(speed)
        return self._many_lines(self._fleets.get(speed, []))

    def base(self, speed, rank):
        """The place with the index 0 of the line with this speed and this rank."""
        check_ratio(speed)
        check_integer(rank)
        lane = rank
        for number in self._fleets.get(speed, []):
            many = abs(self._cycles[number].drift)
            if 0 <= lane < many:
                return self._place_at(number, lane, 0)
            lane = lane - many
        raise NoTrack(speed, rank)

    def round_base(self, length, rank):
        """The place with the index 0 of the round with this length and this rank."""
        check_integer(length, 1)
        check_integer(rank)
        ring = self._rings.get(length, [])
        if not ring:
            raise NoTrack(length, rank)
        return self._place_at(ring[rank % len(ring)], rank // len(ring), 0)

    def walk(self, x, n):
        """Yield n places, x first, each one moved to the next one."""
        _, number, block, index = self.address(x)
        check_integer(n, 0)
        for step in range(n):
            yield self._place_at(number, block, index + step)

    def count_in(self, x, first, last):
        """How many places of the track of x are at least first and less than last."""
        starts, step = self._lap(x)
        check_integer(first)
        check_integer(last)
        if step == 0:
            return len([start for start in starts if first <= start < last])
        return sum([count_between(start, step, first, last) for start in starts])

    def places_in(self, x, first, last):
        """Yield the places of the track of x that are at least first and less than last, in ascending order."""
        starts, step = self._lap(x)
        check_integer(first)
        check_integer(last)
        if step == 0:
            yield from sorted([start for start in starts if first <= start < last])
            return
        # The places of one lap behind first lie less than a step apart, so each lap ends below the next.
        lap = sorted([first_from(start, step, first) for start in starts])
        while lap[0] < last:
            yield from [place for place in lap if place < last]
            lap = [place + step for place in lap]

    def _speed_of(self, cycle):
        return ratio(self._period * cycle.drift, cycle.size)

    def _cycle_at(self, x):
        check_integer(x)
        number, _ = self._spots[x % self._period]
        return self._cycles[number]

    def _place_at(self, number, block, index):
        """The place with an index, any integer also on a round, of the track of a cycle that begins in a block."""
        cycle = self._cycles[number]
        return cycle.remainders[0] + self._period * block + cycle.sum_to(index)

    def _is_address(self, value):
        """Whether the value is the address of a place."""
        if not isinstance(value, tuple) or len(value) != 4:
            return False
        kind, number, block, index = value
        if not isinstance(kind, str) or not all([is_integer(part) for part in (number, block, index)]):
            return False
        if not 0 <= number < len(self._cycles):
            return False
        cycle = self._cycles[number]
        if cycle.drift == 0:
            return kind == "round" and 0 <= index < cycle.size
        return kind == "line" and 0 <= block < abs(cycle.drift)

    def _many_lines(self, numbers):
        """How many lines the cycles with these numbers have."""
        return sum([abs(self._cycles[number].drift) for number in numbers])

    def _lap(self, x):
        """The places of one lap of the track of x, and how far apart the laps of a line are, 0 for a round."""
        _, number, block, _ = self.address(x)
        cycle = self._cycles[number]
        starts = [self._place_at(number, block, index) for index in range(cycle.size)]
        return starts, self._period * abs(cycle.drift)
