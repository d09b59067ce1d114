"""Streams: items that are passed one at each moment and leave in the sequence of a delayed plan."""

from threeswaps.cuts import delayed


class Stream:
    """A stream that delivers items by a plan. It is changed by push alone."""

    def __init__(self, plan, *, gap=None):
        self._plan = delayed(plan)
        self._gap = gap
        self._moment = 0
        self._left = {}

    @property
    def moment(self):
        """The number of items that were passed."""
        return self._moment

    @property
    def waiting(self):
        """How many items have entered and not left."""
        return len(self._left)

    def push(self, item):
        """Pass the item, and return the item that leaves at this moment, the gap if none leaves."""
        self._left[self._moment] = item
        leaving = self._plan.back(self._moment)
        self._moment = self._moment + 1
        # The delayed plan moves nothing down, so a number from 0 on is that of an item that has entered.
        return self._left.pop(leaving) if leaving >= 0 else self._gap

    def rest(self):
        """Yield what would leave at the following moments if nothing more were passed, until nothing waits."""
        moment = self._moment
        many = len(self._left)
        while many > 0:
            leaving = self._plan.back(moment)
            if leaving in self._left:
                many = many - 1
                yield self._left[leaving]
            else:
                yield self._gap
            moment = moment + 1


def deliveries(plan, items, *, gap=None):
    """The list of what leaves when all items are passed to a new stream, and then of what its rest yields."""
    stream = Stream(plan, gap=gap)
    delivered = []
    for item in items:
        delivered.append(stream.push(item))
    return delivered + list(stream.rest())
