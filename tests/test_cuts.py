import unittest

from threeswaps.cuts import carried_down, carried_up, delay, delayed, down, holds, up
from threeswaps.errors import InvalidInteger, TooMany
from threeswaps.plans import Plan
from threeswaps.tracks import Tracks
from cases import Case
from samples import FAR, HUGE, NO_INTEGERS, SMALL_TABLES, TABLES, mixed_table

PLANS = [Plan(offsets) for offsets in TABLES]
NEAR = [plan for plan in PLANS if max(plan.offsets()) < 100 and min(plan.offsets()) > -100]
CUTS = [*range(-8, 9), FAR, FAR + 1, -FAR, 5 - 3 * FAR]
FAN, SLIDE = Plan([3, 1, -4]), Plan([2, -2])
CARRIED = (carried_up, carried_down)


def rising(plan, cut):
    """The places near the cut that are carried up across it."""
    return [x for x in range(cut - 100, cut) if plan.at(x) >= cut]


def falling(plan, cut):
    """The places near the cut that are carried down across it."""
    return [x for x in range(cut, cut + 100) if plan.at(x) < cut]


class Cuts(Case):

    def test_against_a_search(self):
        for plan in NEAR:
            for cut in CUTS:
                self.same([up(plan, cut), down(plan, cut)], [len(rising(plan, cut)), len(falling(plan, cut))])
                self.same(carried_up(plan, cut), rising(plan, cut))
                self.same(carried_down(plan, cut), falling(plan, cut))

    def test_the_bounds_of_a_cut(self):
        step = Plan.shift(1)
        self.same([carried_up(step, 0), carried_down(step, 0), carried_up(step, -4)], [[-1], [], [-5]])
        step = Plan.shift(-1)
        self.same([carried_up(step, 0), carried_down(step, 0), carried_down(step, FAR)], [[], [0], [FAR]])
        self.same([up(FAN, 0), down(FAN, 0), carried_up(FAN, 0), carried_down(FAN, 0)], [1, 1, [-3], [2]])
        self.same([up(SLIDE, 1), down(SLIDE, 1), carried_up(SLIDE, 1), carried_down(SLIDE, 1)], [1, 1, [0], [1]])

    def test_up_less_down_is_the_same_at_all_cuts(self):
        for plan in PLANS + [Plan(offsets) for offsets in SMALL_TABLES]:
            tracks = Tracks(plan)
            for cut in CUTS:
                self.same(up(plan, cut) - down(plan, cut), plan.flow)
                self.same(up(plan, cut) - down(plan, cut), tracks.up - tracks.down)

    def test_the_flow_of_a_product(self):
        for one, other in zip(NEAR[::2], NEAR[1::2]):
            made = one * other
            for cut in CUTS:
                self.same(up(made, cut) - down(made, cut), one.flow + other.flow)

    def test_many_places(self):
        far = Plan([2 * HUGE, -2 * HUGE])
        for cut in CUTS:
            self.same([up(far, cut), down(far, cut)], [HUGE, HUGE])
            self.same([up(Plan.shift(HUGE), cut), down(Plan.shift(-HUGE), cut)], [HUGE, HUGE])
            self.same([down(Plan.shift(HUGE), cut), up(Plan.shift(-HUGE), cut)], [0, 0])

    def test_nothing_is_carried(self):
        for cut in CUTS:
            still = Plan.identity()
            self.same([up(still, cut), down(still, cut), carried_up(still, cut, 0), carried_down(still, cut, 0)],
                      [0, 0, [], []])

    def test_a_long_plan(self):
        long = Plan(mixed_table(2520, 0, 3))
        for cut in (1000, -1260, 5 + 2520 * FAR):
            ends = [x for x in range(cut - 2520, cut) if long.at(x) >= cut]
            self.same([up(long, cut), carried_up(long, cut, 2520)], [len(ends), ends])
        self.same(carried_up(Plan.shift(9999), 5, 9999), list(range(-9994, 5)))
        self.same(carried_down(Plan.shift(-9999), 5, 9999), list(range(5, 10004)))

    def test_by_name(self):
        self.same([up(cut=0, plan=FAN), down(cut=0, plan=FAN)], [1, 1])
        self.same([carried_up(most=1, cut=0, plan=FAN), carried_down(most=1, cut=0, plan=FAN)], [[-3], [2]])
        self.same([carried_up(cut=0, plan=FAN), carried_down(FAN, cut=0)], [[-3], [2]])

    def test_the_lists_are_new(self):
        for call in CARRIED:
            told = call(FAN, 0)
            told.append("more")
            self.assertNotIn("more", call(FAN, 0))
            self.assertIsNot(call(FAN, 0), call(FAN, 0))
            self.assertIsNot(call(Plan.identity(), 0), call(Plan.identity(), 0))
        self.same(FAN.offsets(), [3, 1, -4])


class Most(Case):

    def test_at_above_and_below_the_number(self):
        for plan in NEAR:
            for call, count in ((carried_up, up), (carried_down, down)):
                for cut in (-3, 0, FAR):
                    many = count(plan, cut)
                    for most in (many, many + 1, HUGE):
                        self.same(len(call(plan, cut, most)), many)
                    for most in range(many):
                        self.raises(TooMany, [many], call, plan, cut, most)
                        self.raises(TooMany, [many], call, most=most, cut=cut, plan=plan)

    def test_the_default(self):
        self.same(carried_up(Plan.shift(100), 0), list(range(-100, 0)))
        self.same(carried_down(Plan.shift(-100), 0), list(range(100)))
        self.raises(TooMany, [101], carried_up, Plan.shift(101), 0)
        self.raises(TooMany, [101], carried_down, Plan.shift(-101), 0)
        self.same([carried_up(Plan.shift(-101), 0), carried_down(Plan.shift(101), 0)], [[], []])

    def test_none(self):
        self.raises(TooMany, [1], carried_up, FAN, 0, 0)
        self.raises(TooMany, [1], carried_down, FAN, 0, 0)
        self.same([carried_up(Plan.shift(-5), 0, 0), carried_down(Plan.shift(5), 0, 0)], [[], []])

    def test_too_many_to_list(self):
        self.raises(TooMany, [HUGE], carried_up, Plan.shift(HUGE), -FAR)
        self.raises(TooMany, [HUGE], carried_down, Plan([2 * HUGE, -2 * HUGE]), FAR, 10000)


class Wrong(Case):

    def test_cuts(self):
        for value in NO_INTEGERS:
            for call in (up, down, carried_up, carried_down):
                self.told_itself(InvalidInteger, value, call, FAN, value)
                self.told_itself(InvalidInteger, value, call, cut=value, plan=Plan.shift(HUGE))

    def test_most(self):
        for value in NO_INTEGERS + [-1, -HUGE]:
            for call in CARRIED:
                self.told_itself(InvalidInteger, value, call, FAN, 0, value)
                self.told_itself(InvalidInteger, value, call, Plan.identity(), FAR, most=value)

    def test_which_error_is_due(self):
        for value in NO_INTEGERS:
            for call in CARRIED:
                self.told_itself(InvalidInteger, value, call, FAN, value, "most")
                self.told_itself(InvalidInteger, value, call, FAN, value, -1)
                self.told_itself(InvalidInteger, value, call, FAN, most=None, cut=value)
                self.told_itself(InvalidInteger, value, call, Plan([2 * HUGE, -2 * HUGE]), 0, value)


class Delays(Case):

    def test_the_least_delay(self):
        for plan in PLANS:
            late = delay(plan)
            self.same(late, max(0, -min(plan.offsets())))
            made = Plan([offset + late for offset in plan.offsets()])
            self.assertEqual(delayed(plan), made)
            self.assertTrue(all(offset >= 0 for offset in made.offsets()))
            self.assertTrue(late == 0 or 0 in made.offsets())

    def test_the_delayed_plan(self):
        for plan in PLANS:
            made = delayed(plan)
            self.assertIs(made.__class__, Plan)
            for x in CUTS:
                self.same(made.at(x), plan.at(x) + delay(plan))
                self.same([up(made, x), down(made, x)], [holds(plan), 0])

    def test_what_it_holds(self):
        for plan in PLANS:
            self.same(holds(plan), plan.flow + delay(plan))
            self.same(holds(plan), delayed(plan).flow)

    def test_plans_that_move_places_down_or_up_or_none(self):
        for plan, late, many in ((Plan.identity(), 0, 0), (Plan.shift(5), 0, 5), (Plan.shift(-5), 5, 0), (FAN, 4, 4),
                                 (SLIDE, 2, 2), (Plan([4, 1, 7, 0]), 0, 3), (Plan([1, -1]), 1, 1),
                                 (Plan.shift(HUGE), 0, HUGE), (Plan.shift(-HUGE), HUGE, 0)):
            self.same([delay(plan), holds(plan), delay(plan=plan), holds(plan=plan)], [late, many, late, many])
            self.assertEqual(delayed(plan=plan), plan * Plan.shift(late))
        self.same(delayed(FAN).offsets(), [7, 5, 0])
        self.same(delayed(Plan.shift(-5)).offsets(), [0])

    def test_a_delayed_plan_is_not_delayed_again(self):
        for plan in PLANS:
            self.same(delay(delayed(plan)), 0)
            self.assertEqual(delayed(delayed(plan)), delayed(plan))
            self.same(holds(delayed(plan)), holds(plan))

    def test_nothing_is_changed(self):
        plan = Plan([3, 1, -4])
        for _ in range(2):
            self.same([delay(plan), holds(plan), delayed(plan)], [4, 4, Plan([7, 5, 0])])
            self.same(plan.offsets(), [3, 1, -4])


if __name__ == "__main__":
    unittest.main()
