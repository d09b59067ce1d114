"""Turnings: moves of all places that are their own inverses, by the tracks of a plan or a mirror.

If a turning t turns a move f into its inverse, f followed by t is its own inverse, too, and f is the product of both.
"""

from threeswaps.couples import Couples, strides
from threeswaps.mirrors import moves_product
from threeswaps.seats import Seats, opposite_speed
from threeswaps.tracks import Tracks


class Turning:
    """The base class of the turnings of plans. Such a class defines _turned(seat), to which a seat is moved."""

    def __init__(self, plan):
        self._seats = Seats(plan)

    def at(self, x):
        """The place to which x is moved."""
        return self._seats.place_of(self._turned(self._seats.seat_of(x)))

    def back(self, x):
        """The place that is moved to x."""
        return self.at(x)


class Opposing(Turning):
    """Exchanges the lines of each speed with those of the opposite speed, and turns round the indexes.

    It turns the plan into its inverse. A shift raises the indexes of one line where it lowers those of the other.
    """

    def _turned(self, seat):
        kind, key, rank, index = seat
        if kind == "line":
            return (kind, opposite_speed(key), rank, -index)
        return (kind, key, rank, -index)


class Reversing(Turning):
    """Turns round the indexes of each line and each round, and the ranks of the rounds.

    It turns the plan into its inverse. It is a mirror rule: a shift raises the indexes of a line, and the ranks of the
    rounds, by as much as the opposite shift lowers them.
    """

    def _turned(self, seat):
        kind, key, rank, index = seat
        if kind == "line":
            return (kind, key, rank, -index)
        return (kind, key, -rank, -index)


class Crossing(Turning):
    """Exchanges some places of each line with some of the line that it is coupled with.

    Done after the plan, it leaves only rounds: that of coupled lines with the strides a and b goes through a places
    of the one, then through b places of the other.
    """

    def __init__(self, plan):
        super().__init__(plan)
        self._couples = Couples(plan)

    def length(self, x):
        """The length of the round of x if nothing else is done."""
        return 1 if self.at(x) == x else 2

    def _turned(self, seat):
        kind, key, rank, index = seat
        if kind == "round":
            return seat
        other, beside = self._couples.partner(key, rank)
        stride, stride_beside = strides(key, other)
        if index % stride != 0:
            return seat
        return (kind, other, beside, -(index // stride) * stride_beside)


class Unwinding(Turning):
    """Turns round each of the rounds that are left if the plan and then its crossing are done.

    Of a round of coupled lines it turns round the places of each line by themselves.
    """

    def __init__(self, plan):
        super().__init__(plan)
        self._couples = Couples(plan)

    def length(self, x):
        """The length of the round of x that is left."""
        kind, key, rank, _ = self._seats.seat_of(x)
        if kind == "round":
            return key
        other, _ = self._couples.partner(key, rank)
        return sum(strides(key, other))

    def _turned(self, seat):
        kind, key, rank, index = seat
        if kind == "round":
            return (kind, key, rank, -index)
        other, _ = self._couples.partner(key, rank)
        stride, _ = strides(key, other)
        at = index % stride
        return (kind, key, rank, index - at + (stride - 1 - at))


class Facing:
    """Turns a mirror into its inverse, by the tracks of the plan that does the mirror twice.

    The mirror moves these tracks to each other, a line to one of the opposite speed, and raises the indexes of a track
    by one amount. Let it move x to y. On a line, x is moved to the line of y, to the negative of its own index; on a
    round, it stays on its round and is moved to the negative of the index of y. So it is a plain rule: a shift leads
    lines to themselves, and raises the indexes of one line where it lowers those of the other.
    """

    def __init__(self, mirror):
        self._mirror = mirror
        self._tracks = Tracks(moves_product(mirror, mirror))

    def at(self, x):
        """The place to which x is moved."""
        y = self._mirror.at(x)
        start = y if self._tracks.length(x) is None else x
        return self._tracks.after(start, -self._index(x) - self._index(y))

    def _index(self, x):
        return self._tracks.address(x)[3]
