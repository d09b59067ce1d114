"""Seats: the places of a plan by the keys and ranks of their tracks, as far as plans with one profile share them."""

from threeswaps.integers import common_multiple
from threeswaps.tracks import Tracks


class Seats:
    """The seats of a plan.

    The seat of a place is a tuple of the kind of its track, "line" or "round", the key of the track, which is its
    speed or its length, the rank of the track, and the index of the place on it.
    """

    def __init__(self, plan):
        self._tracks = Tracks(plan)

    def seat_of(self, x):
        """The seat of the place x."""
        kind, _, _, index = self._tracks.address(x)
        key = self._tracks.speed(x) if kind == "line" else self._tracks.length(x)
        return (kind, key, self._tracks.rank(x), index)

    def place_of(self, seat):
        """The place with this seat; the index of a round may be any integer."""
        kind, key, rank, index = seat
        base = self._tracks.base(key, rank) if kind == "line" else self._tracks.round_base(key, rank)
        return self._tracks.after(base, index)


def keeping_shift(plan):
    """A shift of all places that leads each line of the plan to itself and keeps the index on each round.

    A shift by period * drift keeps the lanes of a cycle. It raises the indexes of a line by the shift divided
    by the speed, and the ranks of the rounds of a length by the shift times their density, whatever the plan is.
    """
    drifts = [max(1, abs(drift)) for _, drift in Tracks(plan).cycles()]
    return plan.period * common_multiple(*drifts)


def opposite_speed(speed):
    """The speed of lines that go the other way."""
    top, bottom = speed
    return (-top, bottom)
