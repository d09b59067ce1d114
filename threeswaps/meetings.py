"""Meetings: the moments at which two walkers, each moved by a plan of its own, stand at one place."""

from threeswaps.errors import TooMany
from threeswaps.integers import check_integer, common_multiple
from threeswaps.tracks import Tracks

MOST_MOMENTS = 5040


def meetings(one, x, other, y):
    """All meetings: ("every", L, remainders) if the speeds are equal, otherwise ("times", times)."""
    lap, moments = _repeated(one, x, other, y)
    return ("times", moments) if lap is None else ("every", lap, moments)


def first_meeting(one, x, other, y):
    """The least meeting from 0 on, None if there is none."""
    _, moments = _repeated(one, x, other, y)
    return min([moment for moment in moments if moment >= 0], default=None)


def meetings_in(one, x, other, y, first, last):
    """Yield the meetings that are at least first and less than last, in ascending order."""
    for value in (x, y, first, last):
        check_integer(value)
    lap, moments = _repeated(one, x, other, y)
    if lap is None:
        yield from [moment for moment in moments if first <= moment < last]
        return
    start = first - first % lap
    while moments and start < last:
        yield from [start + moment for moment in moments if first <= start + moment < last]
        start = start + lap


def _repeated(one, x, other, y):
    """A tuple of L and the remainders of the meetings if the speeds are equal, otherwise of None and all meetings."""
    walker, fellow = Tracks(one), Tracks(other)
    lap = common_multiple(_lap(walker, x), _lap(fellow, y))
    if lap > MOST_MOMENTS:
        raise TooMany(lap)
    gaps = [here - there for here, there in zip(list(walker.walk(x, lap)), list(fellow.walk(y, lap)))]
    # A lap changes each gap by the same amount, as it leads each walker on by its speed times the lap.
    growth = walker.after(x, lap) - fellow.after(y, lap) - gaps[0]
    if growth == 0:
        return (lap, [moment for moment, gap in enumerate(gaps) if gap == 0])
    times = [moment - gap // growth * lap for moment, gap in enumerate(gaps) if gap % growth == 0]
    return (None, sorted(times))


def _lap(tracks, x):
    """The length of the cycle in which the remainder of x lies."""
    _, number, _, _ = tracks.address(x)
    cycle, _ = tracks.cycles()[number]
    return len(cycle)
