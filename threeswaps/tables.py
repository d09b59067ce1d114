"""Tables: lists of the offsets that a move adds to the places of each remainder.

The sign is 1 for a plan, which moves x to x + u, and -1 for a mirror, which moves x to -x + u.
"""

from threeswaps.errors import InvalidPair, InvalidTable
from threeswaps.integers import is_integer, is_pair


def check_offsets(offsets, sign):
    """Raise InvalidTable unless the items of a list that is not empty are the offsets of a move with this sign."""
    for position, offset in enumerate(offsets):
        if not is_integer(offset):
            raise InvalidTable("integer", position, None)
    reached = {}
    for position in range(len(offsets)):
        remainder = moved(offsets, sign, position) % len(offsets)
        if remainder in reached:
            raise InvalidTable("meeting", position, reached[remainder])
        reached[remainder] = position


def least_table(offsets):
    """A new list: the shortest table that moves all places as the offsets do."""
    table = list(offsets)
    many = len(table)
    # The shifts under which a move looks the same are the multiples of the least one, so that one
    # divides the length of each table.
    periods = [n for n in range(1, many + 1) if many % n == 0 and table[n:] == table[:many - n]]
    return table[:periods[0]]


def returning_table(offsets, sign):
    """The table of the move with the same sign that moves each place back."""
    table = [0] * len(offsets)
    for remainder, offset in enumerate(offsets):
        table[moved(offsets, sign, remainder) % len(offsets)] = -sign * offset
    return table


def swapping_table(period, pairs):
    """The table that exchanges the places of each pair, and all that lie a multiple of period from them."""
    table = [0] * period
    taken = set()
    for position, pair in enumerate(pairs):
        if not is_pair(pair):
            raise InvalidPair(position)
        one, other = pair
        left, right = one % period, other % period
        if left == right or left in taken or right in taken:
            raise InvalidPair(position)
        taken.add(left)
        taken.add(right)
        table[left] = other - one
        table[right] = one - other
    return table


def moved(offsets, sign, x):
    """The place to which the move with these offsets and this sign moves x."""
    return sign * x + offsets[x % len(offsets)]


def table_text(offsets):
    """The text of a table: its offsets between square brackets, separated by commas."""
    inner = ",".join([str(offset) for offset in offsets])
    return f"[{inner}]"
