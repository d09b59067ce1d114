"""The cycles in which the offsets of a plan lead its remainders to each other."""


class Cycle:
    """One cycle of remainders, and how far the moves along it lead."""

    def __init__(self, offsets, remainders):
        self.remainders = tuple(remainders)
        self.size = len(self.remainders)
        self._sums = _sums_along(offsets, self.remainders)
        self.drift = self._sums[-1] // len(offsets)

    def sum_to(self, index):
        """How far index moves lead from a place of the first remainder; index is any integer."""
        laps, at = divmod(index, self.size)
        return laps * self._sums[-1] + self._sums[at]


def cycles_of(offsets):
    """The Cycles of the table of a plan, by ascending least remainders."""
    seen = [False] * len(offsets)
    found = []
    for first in range(len(offsets)):
        remainders = []
        remainder = first
        while not seen[remainder]:
            seen[remainder] = True
            remainders.append(remainder)
            remainder = (remainder + offsets[remainder]) % len(offsets)
        if remainders:
            found.append(Cycle(offsets, remainders))
    return found


def _sums_along(offsets, remainders):
    """The sums of the offsets of no remainder, of the first one, of the first two, and so on."""
    total = 0
    sums = [0]
    for remainder in remainders:
        total = total + offsets[remainder]
        sums.append(total)
    return sums
