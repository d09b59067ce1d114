import itertools
import unittest

import oracles
from threeswaps.errors import InvalidAddress, InvalidInteger, InvalidRatio, NoTrack
from threeswaps.plans import Plan
from threeswaps.tracks import Tracks
from cases import Case
from samples import (
    FAR, HUGE, NO_INTEGERS, NO_RATIOS, PLACES, SMALL_TABLES, TABLES, Count, Pair, Sly, Thing, Wild, mixed_table,
)

ROWS = [(Plan(offsets).offsets(), Plan(offsets), Tracks(Plan(offsets))) for offsets in TABLES]
# Their lines are few enough to be counted one by one.
SLOW = [(table, plan, tracks) for table, plan, tracks in ROWS if max(table) < 1000 and min(table) > -1000]
FAN, TWIN = Tracks(Plan([3, 1, -4])), Tracks(Plan([4, 1, 7, 0]))
SLIDE, STILL = Tracks(Plan([2, -2])), Tracks(Plan([0]))
LONG = mixed_table(2520, 3, 1)


def track(tracks, x):
    """The address of x without the index."""
    return tracks.address(x)[:3]


def pair(value):
    """The RATIO of a Fraction."""
    return (value.numerator, value.denominator)


class Cycles(Case):

    def test_cycles_and_drifts(self):
        for table, _, tracks in ROWS:
            self.same(tracks.cycles(), oracles.cycles(table))
        for table in SMALL_TABLES:
            self.same(Tracks(Plan(table)).cycles(), oracles.cycles(Plan(table).offsets()))

    def test_some_cycles(self):
        self.same(STILL.cycles(), [((0,), 0)])
        self.same(Tracks(Plan([-HUGE])).cycles(), [((0,), -HUGE)])
        self.same(Tracks(Plan([1, 1, -2])).cycles(), [((0, 1, 2), 0)])
        self.same(Tracks(Plan([-1, 2, -1])).cycles(), [((0, 2, 1), 0)])
        self.same(Tracks(plan=Plan([2, -2, 2, -2])).cycles(), [((0,), 1), ((1,), -1)])

    def test_the_period_decides_and_not_the_table(self):
        self.same(Tracks(Plan([5] * 6)).cycles(), [((0,), 5)])

    def test_the_list_is_new(self):
        told = FAN.cycles()
        told.clear()
        self.same(FAN.cycles(), [((0,), 1), ((1, 2), -1)])
        self.assertIsNot(FAN.cycles(), FAN.cycles())
        self.assertIs(FAN.cycles()[0].__class__, tuple)
        self.assertIs(FAN.cycles()[0][0].__class__, tuple)

    def test_lines_that_go_up_and_down(self):
        for table, plan, tracks in ROWS:
            drifts = [drift for _, drift in oracles.cycles(table)]
            self.same(tracks.up, sum(drift for drift in drifts if drift > 0))
            self.same(tracks.down, sum(-drift for drift in drifts if drift < 0))
            self.same(tracks.up - tracks.down, plan.flow)
        self.same([FAN.up, FAN.down, TWIN.up, TWIN.down, STILL.up, STILL.down], [1, 1, 3, 0, 0, 0])
        self.same([Tracks(Plan([-HUGE])).up, Tracks(Plan([-HUGE])).down], [0, HUGE])

    def test_a_long_plan(self):
        self.same(Tracks(Plan(LONG)).cycles(), oracles.cycles(LONG))


class Addresses(Case):

    def test_addresses(self):
        for table, _, tracks in ROWS:
            for x in PLACES:
                self.same(tracks.address(x), oracles.address(table, x))
                self.same(tracks.address(x=x), tracks.address(x))

    def test_some_addresses(self):
        self.same([FAN.address(4), FAN.place(("line", 0, 0, 10)), FAN.address(-3)],
                  [("line", 1, 0, -2), 30, ("line", 0, 0, -1)])
        self.same([TWIN.address(9), TWIN.address(7), TWIN.address(5), TWIN.address(-5)],
                  [("line", 1, 0, 2), ("round", 2, 1, 0), ("line", 1, 1, 0), ("round", 2, -2, 0)])
        self.same([STILL.address(x) for x in (0, FAR, -FAR)],
                  [("round", 0, 0, 0), ("round", 0, FAR, 0), ("round", 0, -FAR, 0)])
        down = Tracks(Plan([-HUGE]))
        self.same([down.address(0), down.address(-HUGE), down.address(HUGE + 5)],
                  [("line", 0, 0, 0), ("line", 0, 0, 1), ("line", 0, 5, -1)])

    def test_places_and_addresses_belong_to_each_other(self):
        for _, _, tracks in ROWS:
            found = {}
            for x in PLACES:
                address = tracks.address(x)
                self.same(tracks.place(address), x)
                self.assertNotIn(address, found)
                found[address] = x

    def test_a_move_raises_the_index_by_one(self):
        for _, plan, tracks in ROWS:
            for x in PLACES:
                kind, number, block, index = tracks.address(x)
                length = len(tracks.cycles()[number][0])
                following = (index + 1) % length if kind == "round" else index + 1
                self.same(tracks.address(plan.at(x)), (kind, number, block, following))

    def test_each_address_has_a_place(self):
        for _, _, tracks in ROWS:
            for number, (cycle, drift) in enumerate(tracks.cycles()):
                if drift == 0:
                    found = [("round", number, block, at) for block in (0, 1, -1, FAR, -FAR) for at in range(len(cycle))]
                else:
                    lanes = sorted({0, abs(drift) // 2, abs(drift) - 1})
                    found = [("line", number, lane, at) for lane in lanes for at in (0, 1, -1, 7, FAR, -FAR)]
                for address in found:
                    self.same(tracks.address(tracks.place(address)), address)
                    self.same(tracks.place(address=address), tracks.place(address))

    def test_no_integers(self):
        for value in NO_INTEGERS:
            self.told_itself(InvalidInteger, value, FAN.address, value)
            self.told_itself(InvalidInteger, value, STILL.address, x=value)


class WrongAddresses(Case):

    def wrong(self, tracks, value):
        self.told_itself(InvalidAddress, value, tracks.place, value)
        self.told_itself(InvalidAddress, value, tracks.place, address=value)

    def test_values_of_other_kinds(self):
        for tracks in (FAN, TWIN, STILL):
            for value in NO_INTEGERS + [0, 1, "line", "round", Plan([0]), ("line",), ("line", 0), ("line", 0, 0),
                                        ("line", 0, 0, 0, 0), ("round", 0, 0, 0, 0), ("round", 2, 0), "abcd",
                                        [("line", 0, 0, 0)], (("line", 0, 0, 0),), ("line", (0, 0, 0)), (0, 0, 0, 0)]:
                self.wrong(tracks, value)

    def test_a_list_is_no_tuple(self):
        self.wrong(FAN, ["line", 0, 0, 0])
        self.wrong(STILL, ["round", 0, 0, 0])
        self.wrong(FAN, {"line": 0, 1: 0, 2: 0, 3: 0})

    def test_each_part_of_another_kind(self):
        for tracks, right in ((FAN, ("line", 1, 0, 1)), (TWIN, ("line", 1, 1, 1)), (TWIN, ("round", 2, 1, 0))):
            self.same(tracks.address(tracks.place(right)), right)
            for at in range(4):
                for value in NO_INTEGERS + ["line" if right[0] == "round" else "round"]:
                    parts = list(right)
                    parts[at] = value
                    self.wrong(tracks, tuple(parts))

    def test_bools_are_no_numbers(self):
        for parts in ((True, 0, 0), (0, False, 0), (0, 0, True), (False, 0, 0), (1, 0, False), (1, False, True)):
            self.wrong(FAN, ("line", *parts))
        for parts in ((False, 0, 0), (0, True, 0), (0, False, 0), (0, 0, False)):
            self.wrong(STILL, ("round", *parts))

    def test_numbers_beyond_their_bounds(self):
        for number in (-1, 2, 3, HUGE, -HUGE):
            self.wrong(FAN, ("line", number, 0, 0))
        for lane in (-1, 1, 2, HUGE, -HUGE):
            self.wrong(FAN, ("line", 0, lane, 0))
            self.wrong(FAN, ("line", 1, lane, 0))
        for lane in (-1, 2, 3, HUGE):
            self.wrong(TWIN, ("line", 1, lane, 0))
        turn = Tracks(Plan([1, 1, -2]))
        for at in (-1, 3, 4, HUGE, -HUGE):
            self.wrong(turn, ("round", 0, 0, at))
        for number in (-1, 1, HUGE):
            self.wrong(turn, ("round", number, 0, 0))
        self.same([turn.place(("round", 0, -FAR, at)) for at in (0, 1, 2)], [-3 * FAR + at for at in (0, 1, 2)])

    def test_a_round_is_no_line(self):
        self.wrong(FAN, ("round", 0, 0, 0))
        self.wrong(STILL, ("line", 0, 0, 0))
        self.wrong(TWIN, ("line", 2, 0, 0))
        self.wrong(TWIN, ("round", 1, 0, 0))
        for kind in ("LINE", "Line", "", "lines", "r", "ROUND", b"line", 0, None):
            self.wrong(FAN, (kind, 0, 0, 0))

    def test_all_small_tuples(self):
        for _, _, tracks in SLOW[::2]:
            places = {tracks.address(x) for x in range(-300, 300)}
            for address in itertools.product(("line", "round"), range(-1, 5), range(-2, 4), range(-2, 4)):
                if address in places:
                    self.same(tracks.address(tracks.place(address)), address)
                else:
                    self.wrong(tracks, address)

    def test_what_counts_as_a_tuple(self):
        self.same(FAN.place(("line", Count(0), Count(0), Count(10))), 30)


class After(Case):

    def test_small_powers(self):
        for _, plan, tracks in ROWS:
            for x in PLACES[::3]:
                forth = back = x
                for n in range(12):
                    self.same([tracks.after(x, n), tracks.after(x, -n)], [forth, back])
                    forth, back = plan.at(forth), plan.back(back)

    def test_powers_of_many_digits(self):
        for _, plan, tracks in ROWS:
            for n in (FAR, -FAR, HUGE * HUGE + 1):
                power = plan.power(n)
                for x in PLACES[::2]:
                    self.same(tracks.after(x, n), power.at(x))
                    self.same(tracks.after(x=x, n=n), power.at(x))

    def test_no_integers(self):
        for value in NO_INTEGERS:
            self.told_itself(InvalidInteger, value, FAN.after, value, 1)
            self.told_itself(InvalidInteger, value, FAN.after, 1, value)
            self.told_itself(InvalidInteger, value, FAN.after, n="n", x=value)


class Steps(Case):

    def test_against_after(self):
        for _, _, tracks in ROWS:
            for x, n in itertools.product(PLACES[::4], (0, 1, -1, 5, 24, FAR, -FAR)):
                length = tracks.length(x)
                expected = n if length is None else n % length
                self.same(tracks.steps(x, tracks.after(x, n)), expected)
                self.same(tracks.steps(y=tracks.after(x, n), x=x), expected)
                self.assertIs(tracks.on_one_track(x, tracks.after(x, n)), True)

    def test_between_all_places(self):
        for table, _, tracks in ROWS:
            for x, y in itertools.product(PLACES[::2], PLACES[::3]):
                alike = oracles.address(table, x)[:3] == oracles.address(table, y)[:3]
                self.assertIs(tracks.on_one_track(x, y), alike)
                self.assertIs(tracks.on_one_track(y=y, x=x), alike)
                if alike:
                    self.same(tracks.after(x, tracks.steps(x, y)), y)
                else:
                    self.assertIsNone(tracks.steps(x, y))

    def test_rounds_of_one_cycle_and_lines_of_one_cycle(self):
        turn = Tracks(Plan([1, 1, -2]))
        self.same([turn.steps(0, 2), turn.steps(2, 0), turn.steps(2, 1), turn.steps(0, 3), turn.steps(1, 1)],
                  [2, 1, 2, None, 0])
        self.same([TWIN.steps(1, 5), TWIN.steps(1, 9), TWIN.steps(9, 1), TWIN.steps(3, 7), TWIN.steps(3, 3)],
                  [None, 2, -2, None, 0])
        self.same([FAN.steps(4, -2), FAN.steps(-2, 4), FAN.steps(0, 1)], [4, -4, None])

    def test_no_integers(self):
        for value in NO_INTEGERS:
            for call in (FAN.steps, FAN.on_one_track, STILL.steps, STILL.on_one_track):
                self.told_itself(InvalidInteger, value, call, value, 0)
                self.told_itself(InvalidInteger, value, call, 0, value)
                self.told_itself(InvalidInteger, value, call, y="y", x=value)


class OfOnePlace(Case):

    def test_speed(self):
        for table, _, tracks in ROWS:
            for x in PLACES:
                self.same(tracks.speed(x), pair(oracles.speed(table, x)))
                self.same(tracks.speed(x=x), tracks.speed(x))
        self.same([FAN.speed(4), FAN.speed(0), TWIN.speed(1), TWIN.speed(3), STILL.speed(FAR)],
                  [(-3, 2), (3, 1), (4, 1), (0, 1), (0, 1)])

    def test_a_lap_changes_the_place_by_the_speed(self):
        for _, _, tracks in ROWS:
            for x in PLACES[::3]:
                p, q = tracks.speed(x)
                laps = len(tracks.cycles()[tracks.address(x)[1]][0])
                self.same((tracks.after(x, laps) - x) * q, p * laps)

    def test_length(self):
        for table, plan, tracks in ROWS:
            for x in PLACES:
                kind, number, _, _ = oracles.address(table, x)
                if kind == "line":
                    self.assertIsNone(tracks.length(x))
                else:
                    length = tracks.length(x=x)
                    self.same(length, len(oracles.cycles(table)[number][0]))
                    powers = [plan.power(n).at(x) for n in range(length + 1)]
                    self.assertEqual(powers.index(x, 1), length)

    def test_rank(self):
        for table, _, tracks in SLOW:
            for x in PLACES:
                self.same(tracks.rank(x), oracles.rank(table, x))
                self.same(tracks.rank(x=x), tracks.rank(x))
        self.same([TWIN.rank(x) for x in (0, 1, 5, 3, 7, -1)], [0, 1, 2, 0, 1, -1])
        turns = Tracks(Plan([1, -1, 0, 1, -1]))
        self.same([turns.rank(x) for x in (0, 1, 3, 5, 8, -2, -5, 2, 7)], [0, 0, 1, 2, 3, -1, -2, 0, 1])
        self.same([Tracks(Plan([-HUGE])).rank(x) for x in (0, 1, HUGE - 1, HUGE, -1)], [0, 1, HUGE - 1, 0, HUGE - 1])

    def test_ranks_and_speeds_tell_the_tracks_apart(self):
        for _, _, tracks in ROWS:
            found = {}
            for x in PLACES:
                key = (tracks.speed(x), tracks.length(x), tracks.rank(x))
                self.assertEqual(found.setdefault(key, track(tracks, x)), track(tracks, x))
            self.assertEqual(len(found), len({track(tracks, x) for x in PLACES}))

    def test_no_integers(self):
        for value in NO_INTEGERS:
            for call in (FAN.speed, FAN.length, FAN.rank, STILL.speed, STILL.length, STILL.rank):
                self.told_itself(InvalidInteger, value, call, value)
                self.told_itself(InvalidInteger, value, call, x=value)


class Lines(Case):

    def test_how_many(self):
        for table, _, tracks in SLOW:
            found = [speed for speed, _, _ in oracles.speeds(table)]
            for speed in found:
                self.same(tracks.lines(pair(speed)), found.count(speed))
                self.same(tracks.lines(speed=pair(speed)), found.count(speed))
            for value in ((0, 1), (7, 11), (-7, 11), (HUGE + 2, 1)):
                self.same(tracks.lines(value), 0)
        self.same([FAN.lines((3, 1)), FAN.lines((-3, 2)), FAN.lines((3, 2)), TWIN.lines((4, 1)), TWIN.lines((0, 1))],
                  [1, 1, 0, 3, 0])
        self.same([Tracks(Plan([-HUGE])).lines((-HUGE, 1)), FAN.lines(Pair(-3, 2))], [HUGE, 1])

    def test_no_ratios(self):
        for value in NO_RATIOS:
            for tracks in (FAN, STILL):
                self.told_itself(InvalidRatio, value, tracks.lines, value)
                self.told_itself(InvalidRatio, value, tracks.lines, speed=value)

    def test_bases(self):
        for table, _, tracks in SLOW:
            ranks = {}
            for speed, number, lane in oracles.speeds(table):
                rank = ranks.get(speed, 0)
                ranks[speed] = rank + 1
                base = tracks.base(pair(speed), rank)
                self.same(tracks.address(base), ("line", number, lane, 0))
                self.same(tracks.base(rank=rank, speed=pair(speed)), base)
        self.same([TWIN.base((4, 1), rank) for rank in (0, 1, 2)], [0, 1, 5])
        self.same([FAN.base((3, 1), 0), FAN.base((-3, 2), 0)], [0, 1])

    def test_bases_of_many_lines(self):
        down = Tracks(Plan([-HUGE]))
        self.same([down.base((-HUGE, 1), rank) for rank in (0, 1, HUGE - 1)], [0, 1, HUGE - 1])
        self.raises(NoTrack, [(-HUGE, 1), HUGE], down.base, (-HUGE, 1), HUGE)
        mixed = Tracks(Plan([4 * HUGE, 4 * HUGE + 1, 4 * HUGE - 1, -12 * HUGE]))
        self.same([mixed.lines((4 * HUGE, 1)), mixed.lines((-12 * HUGE, 1))], [3 * HUGE, 3 * HUGE])
        self.same([mixed.base((4 * HUGE, 1), rank) for rank in (0, HUGE - 1, HUGE, 3 * HUGE - 1)],
                  [0, 4 * HUGE - 4, 1, 8 * HUGE - 3])
        for x in PLACES:
            self.same(mixed.base(mixed.speed(x), mixed.rank(x)), mixed.place((*track(mixed, x), 0)))

    def test_there_is_no_such_line(self):
        for _, _, tracks in ROWS:
            speeds = {tracks.speed(x) for x in PLACES}
            for speed in speeds | {(0, 1), (7, 11), (-1, 13), (HUGE, 3)}:
                for rank in (-1, tracks.lines(speed), tracks.lines(speed) + 1, FAR * FAR, -FAR):
                    self.raises(NoTrack, [speed, rank], tracks.base, speed, rank)
                    self.raises(NoTrack, [speed, rank], tracks.base, rank=rank, speed=speed)
        self.raises(NoTrack, [(0, 1), 0], STILL.base, (0, 1), 0)
        self.raises(NoTrack, [(0, 1), 0], TWIN.base, (0, 1), 0)

    def test_which_error_is_due(self):
        for value in NO_RATIOS:
            self.told_itself(InvalidRatio, value, FAN.base, value, 0)
            self.told_itself(InvalidRatio, value, FAN.base, value, True)
        for value in NO_INTEGERS:
            self.told_itself(InvalidInteger, value, FAN.base, (3, 1), value)
            self.told_itself(InvalidInteger, value, FAN.base, (0, 1), value)
            self.told_itself(InvalidInteger, value, FAN.base, rank=value, speed=(7, 11))


class Rounds(Case):

    def test_bases(self):
        for _, _, tracks in ROWS:
            for x in PLACES:
                length = tracks.length(x)
                if length is not None:
                    base = tracks.round_base(length, tracks.rank(x))
                    self.same(tracks.address(base), (*track(tracks, x), 0))
                    self.same(tracks.round_base(rank=tracks.rank(x), length=length), base)

    def test_all_integers_are_ranks(self):
        for _, _, tracks in ROWS:
            for length in {tracks.length(x) for x in PLACES} - {None}:
                bases = [tracks.round_base(length, rank) for rank in PLACES]
                self.assertEqual([tracks.rank(base) for base in bases], PLACES)
                self.assertEqual({tracks.length(base) for base in bases}, {length})
                self.assertEqual({tracks.address(base)[3] for base in bases}, {0})
        self.same([STILL.round_base(1, rank) for rank in (0, FAR, -FAR)], [0, FAR, -FAR])
        turns = Tracks(Plan([1, -1, 0, 1, -1]))
        self.same([turns.round_base(2, rank) for rank in (0, 1, 2, 3, -1, -2)], [0, 3, 5, 8, -2, -5])
        self.same([turns.round_base(1, rank) for rank in (0, 1, -1)], [2, 7, -3])

    def test_there_are_no_such_rounds(self):
        for tracks, length in ((FAN, 1), (FAN, 2), (STILL, 2), (TWIN, 2), (TWIN, HUGE), (SLIDE, 1)):
            for rank in (0, -1, FAR):
                self.raises(NoTrack, [length, rank], tracks.round_base, length, rank)
                self.raises(NoTrack, [length, rank], tracks.round_base, rank=rank, length=length)

    def test_which_error_is_due(self):
        for value in NO_INTEGERS + [0, -1, -HUGE]:
            for tracks in (TWIN, FAN):
                self.told_itself(InvalidInteger, value, tracks.round_base, value, 0)
                self.told_itself(InvalidInteger, value, tracks.round_base, value, "rank")
        for value in NO_INTEGERS:
            self.told_itself(InvalidInteger, value, TWIN.round_base, 1, value)
            self.told_itself(InvalidInteger, value, TWIN.round_base, 5, value)
            self.told_itself(InvalidInteger, value, TWIN.round_base, rank=value, length=1)


class Walk(Case):

    def test_walks(self):
        for _, plan, tracks in ROWS:
            for x in PLACES[::5]:
                expected = [x]
                while len(expected) < 20:
                    expected.append(plan.at(expected[-1]))
                for n in (0, 1, 2, 20):
                    self.same(list(tracks.walk(x, n)), expected[:n])
                    self.same(list(tracks.walk(n=n, x=x)), expected[:n])

    def test_a_walk_that_is_left_early(self):
        walk = FAN.walk(0, FAR)
        self.assertEqual([next(walk) for _ in range(4)], [0, 3, 6, 9])
        self.assertEqual(list(FAN.walk(0, 2)), [0, 3])
        self.assertEqual(next(walk), 12)

    def test_walks_by_turns(self):
        one, other = FAN.walk(4, 4), FAN.walk(4, 4)
        found = [next(one), next(one), next(other), next(one), next(other)]
        self.assertEqual(found, [4, 5, 4, 1, 5])
        self.assertEqual([list(one), list(other)], [[2], [1, 2]])

    def test_errors_when_the_iteration_begins(self):
        for value in NO_INTEGERS:
            self.told_itself(InvalidInteger, value, next, FAN.walk(value, 1))
            self.told_itself(InvalidInteger, value, next, FAN.walk(value, "n"))
            self.told_itself(InvalidInteger, value, next, FAN.walk(x=0, n=value))
        for n in (-1, -HUGE):
            self.told_itself(InvalidInteger, n, next, FAN.walk(0, n))


class Windows(Case):

    def check(self, table, tracks, x, first, last):
        kept = oracles.address(table, x)[:3]
        expected = [y for y in range(first, last) if oracles.address(table, y)[:3] == kept]
        self.same(list(tracks.places_in(x, first, last)), expected)
        self.same(tracks.count_in(x, first, last), len(expected))

    def test_against_a_search(self):
        for table, _, tracks in ROWS[::2]:
            for x, first, last in itertools.product((-3, 0, 1, 2, 5), (-9, 0, 4), (-8, 0, 3, 11)):
                self.check(table, tracks, x, first, last)

    def test_far_windows(self):
        for table, _, tracks in ROWS[::3]:
            for x in (0, 1, FAR, -FAR):
                for first in (x - 15, -x, x + 1, FAR - 5):
                    self.check(table, tracks, x, first, first + 30)

    def test_each_place_lies_on_exactly_one_track(self):
        for _, _, tracks in SLOW:
            bases = {tracks.place((*track(tracks, y), 0)) for y in range(-20, 20)}
            found = [y for base in bases for y in tracks.places_in(base, -20, 20)]
            self.assertEqual(sorted(found), list(range(-20, 20)))

    def test_empty_and_turned_windows(self):
        for _, _, tracks in ROWS:
            for x, first, last in ((0, 0, 0), (0, 1, 0), (2, 5, -5), (0, FAR, -FAR), (1, HUGE, HUGE), (3, 4, 3)):
                self.same(list(tracks.places_in(x, first, last)), [])
                self.same(tracks.count_in(x, first, last), 0)

    def test_the_bounds(self):
        for _, _, tracks in ROWS:
            for x in PLACES[::3]:
                self.same(list(tracks.places_in(x, x, x + 1)), [x])
                self.same([tracks.count_in(x, x, x + 1), tracks.count_in(x, x + 1, x + 1)], [1, 0])
                self.assertNotIn(x, list(tracks.places_in(x, x - 3, x)))
                self.assertNotIn(x, list(tracks.places_in(x, x + 1, x + 3)))

    def test_wide_windows(self):
        self.same([FAN.count_in(0, 0, 3 * FAR), FAN.count_in(1, 0, 3 * FAR)], [FAR, 2 * FAR])
        turn = Tracks(Plan([1, 1, -2]))
        self.same([turn.count_in(4, -FAR, FAR), turn.count_in(4, 4, 5), turn.count_in(4, 5, FAR)], [3, 1, 1])
        self.same(list(turn.places_in(4, -FAR, FAR)), [3, 4, 5])
        self.same(list(turn.places_in(5, 4, FAR)), [4, 5])
        self.same(len(list(FAN.places_in(0, 0, 30000))), 10000)

    def test_by_name(self):
        self.same(FAN.count_in(last=10, first=-10, x=4), 13)
        self.same(list(FAN.places_in(last=6, x=4, first=0)), [1, 2, 4, 5])

    def test_generators_by_turns(self):
        one, other = FAN.places_in(4, 0, 6), FAN.places_in(4, 0, 6)
        self.assertEqual([next(one), next(one), next(other), next(one)], [1, 2, 1, 4])
        FAN.count_in(4, 0, 6)
        self.assertEqual([list(one), list(other)], [[5], [2, 4, 5]])

    def test_no_integers(self):
        def first_of(*values, **named):
            return next(FAN.places_in(*values, **named))

        for value in NO_INTEGERS:
            for call in (FAN.count_in, STILL.count_in, first_of):
                self.told_itself(InvalidInteger, value, call, value, "first", "last")
                self.told_itself(InvalidInteger, value, call, 0, value, "last")
                self.told_itself(InvalidInteger, value, call, 0, 5, value)
                self.told_itself(InvalidInteger, value, call, last=None, first=value, x=3)

    def test_generators_raise_when_the_iteration_begins(self):
        found = FAN.places_in(0, 0, "last")
        self.told_itself(InvalidInteger, "last", next, found)


class Objects(Case):

    def test_queries_change_nothing(self):
        tracks = Tracks(Plan([4, 1, 7, 0]))
        before = [tracks.cycles(), [tracks.address(x) for x in PLACES]]
        for _ in range(2):
            tracks.after(3, 5), tracks.steps(1, 2), tracks.rank(7), tracks.lines((4, 1)), tracks.lines((5, 1))
            tracks.base((4, 1), 1), tracks.round_base(1, 5), list(tracks.walk(1, 5)), tracks.count_in(1, 0, 9)
            self.raises(NoTrack, [(5, 1), 0], tracks.base, (5, 1), 0)
            self.raises(NoTrack, [5, 0], tracks.round_base, 5, 0)
            self.assertEqual([tracks.cycles(), [tracks.address(x) for x in PLACES]], before)

    def test_two_objects_share_nothing(self):
        one, other = Tracks(Plan([2, -2])), Tracks(Plan([3, 1, -4]))
        self.same([one.address(4), other.address(4), one.address(4)],
                  [("line", 0, 0, 2), ("line", 1, 0, -2), ("line", 0, 0, 2)])


if __name__ == "__main__":
    unittest.main()
