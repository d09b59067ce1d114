"""Values of many kinds that the tests pass."""

import itertools
import random
from collections import namedtuple


class Thing:
    """An object of no kind that the program knows."""


class Sly:
    """An object that claims to be equal to everything, to be an index and a pair of integers."""

    def __eq__(self, other):
        return True

    __hash__ = None

    def __index__(self):
        return 1

    def __int__(self):
        return 1

    def __len__(self):
        return 2

    def __getitem__(self, at):
        return (1, 2)[at]


class Wild:
    """An object that fails whatever it is asked."""

    def __eq__(self, other):
        raise RuntimeError("compared")

    __hash__ = None

    def __bool__(self):
        raise RuntimeError("tested")

    def __len__(self):
        raise RuntimeError("measured")

    def __repr__(self):
        raise RuntimeError("shown")


class Count(int):
    """A kind of int: its objects are INTEGERs."""


Pair = namedtuple("Pair", "p q")

HUGE = 10 ** 30 + 57
VAST = 7 ** 4000

NO_INTEGERS = [
    True, False, None, "", "1", "12", b"", b"1", [], [1], (), (1,), (1, 2), (True,), {}, {1: 2}, {1}, frozenset([1]),
    range(3), int, bool, len, Thing, Thing(), Sly(), Wild(), NotImplemented, ..., ValueError("1"),
]
INTEGERS = [0, 1, -1, 2, -7, 255, 256, 257, HUGE, -HUGE, VAST, -VAST, Count(5), Count(0)]

RATIOS = [
    (0, 1), (1, 1), (-1, 1), (1, 2), (-1, 2), (3, 2), (-3, 2), (5, 1), (-5, 1), (HUGE, 1), (1, HUGE), (-1, HUGE),
    (HUGE, HUGE + 1), (-HUGE, HUGE + 1), (VAST, VAST + 1), Pair(2, 3), (Count(3), Count(4)),
]
NO_RATIOS = NO_INTEGERS[:12] + [
    (0, 2), (0, 0), (0, -1), (1, 0), (-1, 0), (1, -1), (1, -2), (-1, -2), (2, 2), (2, 4), (-2, 4), (6, 3), (4, -6),
    (HUGE, HUGE), (2 * HUGE, 4), (3 * HUGE, HUGE * HUGE), (VAST, 7), (1,), (1, 2, 3), (1, 1, 1), (0, 1, 0),
    (True, 1), (1, True), (True, True), (False, 1), (True, 2), (2, True), (False, True), (0, True),
    [1, 2], [0, 1], [1, 1], ([1, 2],), ((1, 2),), ((1, 2), (1, 3)), ([1], 2), (1, [2]), ((1,), 2), (1, (2,)),
    ("1", 2), (1, "2"), ("1", "2"), (None, 1), (1, None), (None, None), (b"1", 1), ({}, 1), (1, {}), (Thing(), 1),
    (1, Thing()), (Sly(), 1), (1, Sly()), (Wild(), 1), (1, Wild()), Pair(2, 4), Pair(1, True), "12", b"12",
    {1: 2, 3: 4}, {0: 1, 1: 2}, {1, 2}, frozenset([1, 2]), range(1, 3), Thing(), Sly(), Wild(), 0, 1, HUGE, Thing, tuple, int,
]

FAR = 10 ** 61 + 7
PLACES = [*range(-13, 14), FAR, FAR + 1, FAR + 2, -FAR, -FAR - 1, 3 * FAR + 5, -7 * FAR]

NO_LISTS = [value for value in NO_INTEGERS if not isinstance(value, (list, tuple))] + [
    [], (), 0, 1, 3, HUGE, "[0]", "abc", {0: 0}, {0: 1, 1: -1}, {0}, range(1), iter([0]), (n for n in [0]), "0",
]


def is_table(offsets):
    """Whether the offsets bring one thing to each place, as a search tells."""
    many = len(offsets)
    return sorted((at + offset) % many for at, offset in enumerate(offsets)) == list(range(many))


def all_tables(period, most):
    """All tables of plans with so many offsets from -most to most."""
    return [list(offsets) for offsets in itertools.product(range(-most, most + 1), repeat=period) if is_table(offsets)]


def mixed_table(period, reach, seed):
    """A table with so many offsets that reach far up and down, another one for each seed."""
    chance = random.Random(seed)
    goals = list(range(period))
    chance.shuffle(goals)
    return [goal - at + period * chance.randint(-reach, reach) for at, goal in enumerate(goals)]


SMALL_TABLES = all_tables(1, 4) + all_tables(2, 3) + all_tables(3, 2)
TABLES = SMALL_TABLES[::3] + [
    [3, 1, -4], [4, 1, 7, 0], [2, -2, 6, -6], [1, 1, -2], [1, 1, 1, -3], [0, 6, 0, 2], [6, -6, 2, 0, -2, 6],
    [HUGE], [-HUGE], [2 * HUGE, -2 * HUGE], [3 * HUGE + 1, 1, -2 - 6 * HUGE],
] + [mixed_table(period, reach, period + reach) for period in (4, 5, 6, 7, 8, 9, 12) for reach in (0, 1, 2, HUGE)]


def still_table(table):
    """A table of flow 0, made of another one by another first offset."""
    return [table[0] - sum(table), *table[1:]]


# Several lines and cycles of one speed, both directions, and rounds of two lengths with several cycles.
CROWD = [12, 24, -12, 13, 11, -12, 1, -1, 0, 1, -1, 0]
# Lines of two speeds up and of one speed down, several cycles of each; rounds of four lengths beside them.
STREETS = [36, 36, 36, 72, 72, 72, 1, 1, -110, 1, 1, -110, 1, 1, -110, 1, -1, 1, 1, -2, 1, -1, 0, 0, 0, 0, 1, 1, 1, -3,
           1, -1, 0, 1, -1, 0]
# Plans of flow 0: as many lines go up as down.
STILL_TABLES = [still_table(table) for table in TABLES + [CROWD] if len(table) > 1] + [
    STREETS, [0, 4, -4], [5, -1, -4], [4, -4, 5, -5], [20, 20, 1, -21, -20, 0, 0, 1, 1, -2], [5, 5, 6, -1, -15],
    [6 * HUGE, 3 * HUGE, -9 * HUGE],
]
# Plans without lines, with rounds of one or several lengths.
CLOSED_TABLES = [
    [0], [1, -1], [3, -3], [1, 1, -2], [4, 1, -5], [1, -1, 0], [1, 1, 1, -3], [1, 1, 1, 1, 1, -5], [2, 2, -2, -2],
    [1, -1, 1, 1, -2], [1, -1, 1, 1, -2, 0, 0], [1, 1, 1, -3, 1, 1, 1, 1, 1, -5], [6 * HUGE + 1, -1 - 6 * HUGE, 0],
    [1, 1, 1, 1, -4, 1, 1, -2, 1, -1], [1, 1, 1, 1, 1, 1, 1, 1, -8, 1, 1, 1, 1, 1, -5], [2, 2, 2, 2, -4, -4],
    [1, -1, 1, -1, 0, 0, 0], [1, 1, -2, 1, 1, -2, 1, 1, -2, 0],
]


def mirror_table(table, around=1):
    """The table of a mirror: it turns the places round, and then moves them as the table of a plan does."""
    many = len(table)
    return [around + table[(around - at) % many] for at in range(many)]
