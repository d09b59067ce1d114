import itertools
import math
import unittest

import oracles
from threeswaps.errors import InvalidInteger, TooMany
from threeswaps.meetings import first_meeting, meetings, meetings_in
from threeswaps.plans import Plan
from cases import Case
from samples import CROWD, FAR, HUGE, NO_INTEGERS, SMALL_TABLES, STREETS, TABLES, Count

FAN, SLIDE, TWIN, TURN, STILL = Plan([3, 1, -4]), Plan([2, -2]), Plan([4, 1, 7, 0]), Plan([1, 1, -2]), Plan([0])
SMALL = [Plan(offsets) for offsets in SMALL_TABLES[::7]] + [FAN, SLIDE, TWIN, TURN, STILL]
WINDOW = range(-150, 150)


def turning(length):
    """A plan whose rounds all have this length."""
    return Plan([1] * (length - 1) + [1 - length])


def lap(plan, x):
    """The length of the cycle in which the remainder of x lies."""
    return [len(cycle) for cycle, _ in oracles.cycles(plan.offsets()) if x % plan.period in cycle][0]


def path(plan, x, moments=WINDOW):
    """Where a walker stands at the moments of a window around 0, step by step."""
    places = {0: x}
    for n in range(1, moments[-1] + 1):
        places[n] = plan.at(places[n - 1])
    for n in range(-1, moments[0] - 1, -1):
        places[n] = plan.back(places[n + 1])
    return places


class MeetingCase(Case):

    def check(self, one, x, other, y):
        """Check all that is told of the meetings of two walkers against a walk; return what kind of answer it is."""
        here, there = path(one, x), path(other, y)
        met = [n for n in WINDOW if here[n] == there[n]]
        found = meetings(one, x, other, y)
        self.assertIs(found.__class__, tuple)
        whole = math.lcm(lap(one, x), lap(other, y))
        if oracles.speed(one.offsets(), x) == oracles.speed(other.offsets(), y):
            kind, many, remainders = found
            self.same([kind, many], ["every", whole])
            self.same(met, [n for n in WINDOW if n % whole in remainders])
            self.same(remainders, sorted(set(n % whole for n in met)))
            later = remainders[0] if remainders else None
        else:
            kind, times = found
            self.same([n for n in times if n in WINDOW], met)
            self.same([kind, times], ["times", sorted(set(times))])
            self.assertTrue(len(times) <= whole)
            for n in times:
                self.same(one.power(n).at(x), other.power(n).at(y))
            later = min([n for n in times if n >= 0], default=None)
        self.same(first_meeting(one, x, other, y), later)
        for first, last in ((-150, 150), (-7, 20), (0, 1), (3, 3), (9, -9), (-1, 0)):
            told = list(meetings_in(one, x, other, y, first, last))
            self.same(told, [n for n in met if first <= n < last])
        return kind, min(len(found[-1]), 3)


class Meetings(MeetingCase):

    def test_small_plans(self):
        seen = {}
        for one, other in itertools.product(SMALL, repeat=2):
            for x, y in ((0, 0), (0, 1), (2, -1), (-5, 4)):
                kind = self.check(one, x, other, y)
                seen[kind] = seen.get(kind, 0) + 1
        for kind in itertools.product(("every", "times"), (0, 1, 2, 3)):
            self.assertGreater(seen.get(kind, 0), 0, kind)

    def test_the_same_plan_twice(self):
        for plan in SMALL + [Plan(CROWD), Plan(STREETS)]:
            for x in (0, 1, 2, -3):
                self.check(plan, x, plan, x)
                self.check(plan, x, plan, plan.at(x))
                self.check(plan, x, plan, plan.power(5).at(x))
                self.check(plan, x, plan.inverse(), x)

    def test_two_rounds(self):
        for one, other in itertools.product((2, 3, 4, 6, 7), repeat=2):
            for x, y in ((0, 0), (1, 3), (0, 100), (5, 5)):
                self.check(turning(one), x, turning(other), y)

    def test_a_round_and_a_line(self):
        for x in range(-6, 7):
            self.check(TURN, x, Plan.shift(1), 0)
            self.check(Plan.shift(-2), 0, turning(5), x)
            self.check(TWIN, 3, SLIDE, x)

    def test_two_lines(self):
        for x, y in itertools.product(range(-3, 4), repeat=2):
            self.check(FAN, x, SLIDE, y)
            self.check(Plan([5, 1, 1, 1]), x, Plan([4, 0]), y)
            self.check(Plan([4, 0]), x, Plan.shift(2), y)

    def test_some_meetings(self):
        self.same([meetings(FAN, 0, Plan.shift(1), 4), first_meeting(SLIDE, 0, Plan.shift(1), 4)], [("times", [2]), 4])
        self.same(meetings(SLIDE, 0, Plan.shift(2), 2), ("every", 1, []))
        self.same(meetings(STILL, 5, STILL, 5), ("every", 1, [0]))
        self.same(meetings(STILL, 5, STILL, 6), ("every", 1, []))
        self.same(meetings(TURN, 0, STILL, 2), ("every", 3, [2]))
        self.same(meetings(TURN, 0, TURN, 0), ("every", 3, [0, 1, 2]))
        self.same(meetings(Plan.shift(1), 0, Plan.shift(-1), 7), ("times", []))
        self.same(meetings(Plan.shift(1), 0, Plan.shift(-1), -8), ("times", [-4]))
        self.same(first_meeting(Plan.shift(1), 0, Plan.shift(-1), -8), None)
        self.same(meetings(Plan.shift(1), 0, turning(4), 4), ("times", [4, 5, 6, 7]))
        self.same(meetings(Plan.shift(1), 1, turning(4), 4), ("times", []))

    def test_places_of_many_digits(self):
        self.same(meetings(Plan.shift(1), 0, STILL, FAR), ("times", [FAR]))
        self.same(meetings(Plan.shift(-1), 0, STILL, FAR), ("times", [-FAR]))
        self.same(meetings(Plan.shift(3), 0, Plan.shift(1), 2 * FAR), ("times", [FAR]))
        self.same(meetings(Plan.shift(3), 0, Plan.shift(1), 2 * FAR + 1), ("times", []))
        self.same(first_meeting(Plan.shift(HUGE), -HUGE * FAR, STILL, 0), FAR)
        self.same(first_meeting(Plan.shift(HUGE), HUGE * FAR, STILL, 0), None)
        for x, y in ((FAR, FAR), (-FAR, 2 * FAR + 3), (FAR + 1, -FAR)):
            for one, other in itertools.product((FAN, SLIDE, TWIN, TURN), repeat=2):
                found = meetings(one, x, other, y)
                if found[0] == "times":
                    for n in found[1]:
                        self.same(one.power(n).at(x), other.power(n).at(y))
                self.same(list(meetings_in(one, x + 9, other, x, -40, 40)),
                          [n for n in range(-40, 40) if one.power(n).at(x + 9) == other.power(n).at(x)])

    def test_shifted_walkers(self):
        for one, other in itertools.product(SMALL[::2], repeat=2):
            shift = one.period * other.period * FAR
            for x, y in ((0, 0), (1, -2)):
                self.same(meetings(one, x + shift, other, y + shift), meetings(one, x, other, y))

    def test_by_name(self):
        named = {"y": 4, "other": Plan.shift(1), "x": 0, "one": FAN}
        self.same([meetings(**named), first_meeting(**named)], [("times", [2]), 2])
        self.same(list(meetings_in(last=3, first=-3, **named)), [2])

    def test_the_lists_are_new_and_the_plans_stay(self):
        one, other = Plan([1, 1, -2]), Plan([0])
        meetings(one, 0, other, 2)[2].clear()
        meetings(FAN, 0, Plan.shift(1), 4)[1].clear()
        self.same([meetings(one, 0, other, 2), meetings(FAN, 0, Plan.shift(1), 4)], [("every", 3, [2]), ("times", [2])])
        self.same([one.offsets(), other.offsets()], [[1, 1, -2], [0]])


class Windows(MeetingCase):

    def test_empty_and_turned_windows(self):
        for first, last in ((0, 0), (5, 5), (1, 0), (FAR, -FAR), (-FAR, -FAR), (FAR, FAR)):
            self.same(list(meetings_in(TURN, 0, TURN, 0, first, last)), [])
            self.same(list(meetings_in(FAN, 0, Plan.shift(1), 4, first, last)), [])

    def test_windows_far_off(self):
        self.same(list(meetings_in(TURN, 0, STILL, 2, 3 * FAR, 3 * FAR + 7)), [3 * FAR + 2, 3 * FAR + 5])
        self.same(list(meetings_in(TURN, 0, STILL, 2, -3 * FAR - 1, -3 * FAR + 3)), [-3 * FAR - 1, -3 * FAR + 2])
        self.same(list(meetings_in(SLIDE, 0, SLIDE, 0, -FAR, 3 - FAR)), [-FAR, 1 - FAR, 2 - FAR])

    def test_wide_windows(self):
        self.same(list(meetings_in(SLIDE, 0, Plan.shift(2), 2, -FAR, FAR)), [])
        self.same(list(meetings_in(FAN, 0, Plan.shift(1), 4, -FAR, FAR)), [2])
        self.same(list(meetings_in(TURN, 0, TURN, 0, -3000, 4000)), list(range(-3000, 4000)))

    def test_bounds(self):
        for first, last in itertools.product(range(-7, 8), repeat=2):
            self.same(list(meetings_in(TURN, 0, STILL, 2, first, last)),
                      [n for n in range(first, last) if n % 3 == 2])
            self.same(list(meetings_in(Plan.shift(1), 0, turning(4), 4, first, last)),
                      [n for n in range(first, last) if n in (4, 5, 6, 7)])

    def test_two_iterations(self):
        one, other = meetings_in(TURN, 0, STILL, 2, 0, 20), meetings_in(TURN, 0, TURN, 0, 0, 20)
        again = meetings_in(TURN, 0, STILL, 2, 0, 20)
        taken = [(next(one), next(other), next(again)) for _ in range(6)]
        self.same(taken, [(3 * n + 2, n, 3 * n + 2) for n in range(6)])
        self.same([list(one), list(again)], [[], []])
        self.same(list(other), list(range(6, 20)))


class Errors(MeetingCase):

    def begun(self, *values, **named):
        """Begin the iteration of meetings_in."""
        return next(meetings_in(*values, **named), None)

    def test_no_integers(self):
        long = turning(2520)
        for value in NO_INTEGERS:
            for call in (meetings, first_meeting):
                for one, other in ((FAN, SLIDE), (long, turning(11))):
                    self.told_itself(InvalidInteger, value, call, one, value, other, "y")
                    self.told_itself(InvalidInteger, value, call, one, 0, other, value)
                    self.told_itself(InvalidInteger, value, call, one=one, x=value, other=other, y=0)
            for one, other in ((FAN, SLIDE), (long, turning(11))):
                self.told_itself(InvalidInteger, value, self.begun, one, value, other, None, "a", "b")
                self.told_itself(InvalidInteger, value, self.begun, one, 0, other, value, "a", "b")
                self.told_itself(InvalidInteger, value, self.begun, one, 0, other, 0, value, "b")
                self.told_itself(InvalidInteger, value, self.begun, one, 0, other, 0, 0, value)
                self.told_itself(InvalidInteger, value, self.begun, last=value, one=one, other=other, first=3, x=1, y=2)
        self.same(meetings(FAN, Count(0), Plan.shift(1), Count(4)), ("times", [2]))

    def test_too_many(self):
        for one, other, many in ((2520, 11, 27720), (71, 73, 5183), (72, 71, 5112), (5, 1009, 5045)):
            for first, second in ((one, other), (other, one)):
                for x, y in ((0, 0), (1, 5), (-3, FAR)):
                    told = [turning(first), x, turning(second), y]
                    self.raises(TooMany, [many], meetings, *told)
                    self.raises(TooMany, [many], first_meeting, *told)
                    self.raises(TooMany, [many], self.begun, *told, 0, 10)
                    self.raises(TooMany, [many], self.begun, *told, 10, 0)
        lines = Plan([1] * 70 + [72])
        self.raises(TooMany, [71 * 73], meetings, lines, 0, turning(73), 0)
        self.raises(TooMany, [71 * 73], meetings, turning(73), 0, lines, 5)

    def test_just_not_too_many(self):
        one, other = turning(2520), turning(16)
        self.same(meetings(one, 0, other, 1)[:2], ("every", 5040))
        self.same(meetings(one, 0, other, 0), ("every", 5040, [n for n in range(5040) if n % 2520 == n % 16]))
        self.same(first_meeting(one, 0, other, 1), None)
        self.same([first_meeting(one, 15, other, 0), first_meeting(one, 8, other, 0)], [None, 2512])
        lines = Plan([1] * 62 + [64])
        self.same(meetings(turning(80), 0, lines, 0), ("times", list(range(63))))
        self.same(list(meetings_in(one, 0, other, 0, 2 * 5040 - 1, 2 * 5040 + 17)), list(range(10080, 10096)))

    def test_the_errors_are_raised_when_the_iteration_begins(self):
        for told, error, value in (((FAN, "x", FAN, 0, 0, 1), InvalidInteger, "x"),
                                   ((FAN, 0, FAN, 0, 0, True), InvalidInteger, True),
                                   ((turning(71), 0, turning(73), 0, 0, 1), TooMany, 5183)):
            begun = meetings_in(*told)
            self.raises(error, [value], next, begun)


if __name__ == "__main__":
    unittest.main()
