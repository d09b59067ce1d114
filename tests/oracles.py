"""Answers about the tracks of tables, found as the document's words say, without the program."""

from fractions import Fraction


def cycles(table):
    """The tuples of a cycle and its drift."""
    period, found = len(table), []
    for first in range(period):
        if not any(first in cycle for cycle, _ in found):
            cycle = [first]
            while (cycle[-1] + table[cycle[-1]]) % period != first:
                cycle.append((cycle[-1] + table[cycle[-1]]) % period)
            found.append((tuple(cycle), sum(table[r] for r in cycle) // period))
    return found


def address(table, x):
    """The address of x."""
    period = len(table)
    for number, (cycle, drift) in enumerate(cycles(table)):
        if x % period in cycle:
            at = cycle.index(x % period)
            block = Fraction(x - cycle[0] - sum(table[r] for r in cycle[:at]), period)
            assert block.denominator == 1
            if drift == 0:
                return ("round", number, int(block), at)
            lane = int(block) % abs(drift)
            laps = (block - lane) / drift
            assert laps.denominator == 1
            return ("line", number, lane, at + len(cycle) * int(laps))


def speed(table, x):
    """The speed of the track of x, a Fraction."""
    cycle, drift = cycles(table)[address(table, x)[1]]
    return Fraction(len(table) * drift, len(cycle))


def speeds(table):
    """For each line of each cycle its speed, the number of its cycle and its lane."""
    return [(Fraction(len(table) * drift, len(cycle)), number, lane)
            for number, (cycle, drift) in enumerate(cycles(table)) for lane in range(abs(drift))]


def rank(table, x):
    """The rank of the track of x."""
    kind, number, block, _ = address(table, x)
    found = cycles(table)
    if kind == "line":
        alike = [row for row in speeds(table) if row[0] == speed(table, x)]
        return alike.index((speed(table, x), number, block))
    ring = [at for at, (cycle, drift) in enumerate(found) if drift == 0 and len(cycle) == len(found[number][0])]
    return len(ring) * block + ring.index(number)
