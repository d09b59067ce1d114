import itertools
import math
import unittest

from threeswaps.errors import InvalidInteger, NoRenaming, TooLong
from threeswaps.plans import Plan
from threeswaps.profiles import Profile
from threeswaps.renamings import Renaming, alike, renaming_fault, shortest
from threeswaps.rules import PlainRule, Rule
from cases import Case
from samples import CROWD, FAR, HUGE, NO_INTEGERS, PLACES, SMALL_TABLES, TABLES, Count, mixed_table

PLANS = [Plan(offsets) for offsets in TABLES]
FAN, SLIDE, TWIN = Plan([3, 1, -4]), Plan([2, -2]), Plan([4, 1, 7, 0])
NAMES = [Plan.swapping(2, (0, 1)), Plan(mixed_table(2, HUGE, 5)), Plan(mixed_table(4, HUGE, 9)),
         Plan(mixed_table(3, 2, 4))]
CROWDED = Plan(CROWD)


def pairs():
    """Pairs of plans with equal profiles, by renamings and by their profiles alone."""
    for number, plan in enumerate(PLANS):
        yield plan, plan.renamed(NAMES[number % len(NAMES)])
        yield plan, Profile.of(plan).plan()
        yield plan.renamed(NAMES[number % 3]), plan.renamed(Plan.shift(1))
    for by in NAMES:
        yield CROWDED.renamed(by), CROWDED
    yield CROWDED, CROWDED
    yield Plan([6, 6, 6, 6]), Plan.shift(6)


PAIRS = [(one, other) for one, other in pairs() if alike(one, other)]
RULES = [(one, other, Renaming(one, other)) for one, other in PAIRS]


def with_period(period):
    """A plan that has just this period, from 2 on."""
    return Plan([1, -1] + [0] * (period - 2))


class Alike(Case):

    def test_renamed_plans(self):
        self.assertGreater(len(PAIRS), 150)
        for plan, by in itertools.product(PLANS, NAMES):
            self.assertIs(alike(plan, plan.renamed(by)), True)
            self.assertIs(alike(other=plan, one=plan.renamed(by)), True)

    def test_against_the_profiles(self):
        for one, other in itertools.product(PLANS[::2], PLANS):
            expected = Profile.of(one).first_difference(Profile.of(other)) is None
            self.assertIs(alike(one, other), expected)

    def test_some_plans(self):
        self.same([alike(FAN, FAN), alike(FAN, SLIDE), alike(FAN, FAN.inverse()), alike(SLIDE, SLIDE.inverse())],
                  [True, False, False, True])
        self.same([alike(Plan([1, -1]), Plan([1, -1, 0])), alike(Plan.shift(1), Plan.shift(2))], [False, False])
        self.same([alike(Plan([1, -1, 0]), Plan([0, 4, -4]))], [True])


class Renamings(Case):

    def test_what_a_renaming_does(self):
        for one, other, rule in RULES:
            for x in PLACES:
                self.same(rule.at(one.at(x)), other.at(rule.at(x)))
                self.same(rule(one(x)), other(rule(x)))

    def test_back_undoes_at(self):
        for one, other, rule in RULES:
            for x in PLACES:
                self.same([rule.back(rule.at(x)), rule.at(rule.back(x))], [x, x])
                self.same(rule.back(other.at(x)), one.at(rule.back(x)))

    def test_exactly_one_place_is_moved_to_each_place(self):
        for _, _, rule in RULES:
            self.assertEqual(len({rule.at(x) for x in PLACES}), len(PLACES))

    def test_the_period(self):
        for _, _, rule in RULES:
            period = rule.period
            self.assertIs(period.__class__, int)
            self.assertTrue(1 <= period < 10 ** 3900)
            for x in PLACES[::2]:
                for times in (1, -1, FAR):
                    self.same(rule.at(x + times * period), rule.at(x) + times * period)
                    self.same(rule.back(x + times * period), rule.back(x) + times * period)

    def test_the_kind(self):
        for _, _, rule in RULES[::9]:
            self.assertTrue(isinstance(rule, Renaming) and isinstance(rule, PlainRule) and isinstance(rule, Rule))

    def test_by_name(self):
        other = FAN.renamed(NAMES[0])
        rule = Renaming(other=other, one=FAN)
        self.same([rule.at(x=5), rule(x=5), rule.back(x=5)], [rule.at(5), rule.at(5), rule.back(5)])
        self.same(rule(FAN(1000)), other(rule(1000)))

    def test_rules_by_turns(self):
        first, second = RULES[0], RULES[-2]
        expected = [[rule.at(x) for x in PLACES] for _, _, rule in (first, second)]
        found = [[], []]
        for x in PLACES:
            for number, (_, _, rule) in enumerate((first, second)):
                rule.back(x)
                found[number].append(rule.at(x))
        self.same(found, expected)
        again = Renaming(CROWDED, CROWDED.renamed(NAMES[0]))
        self.same([again.at(x) for x in PLACES], [again.at(x) for x in PLACES])

    def test_no_integers(self):
        rule = Renaming(TWIN, TWIN.renamed(NAMES[0]))
        for value in NO_INTEGERS:
            for call in (rule.at, rule, rule.back):
                self.told_itself(InvalidInteger, value, call, value)
                self.told_itself(InvalidInteger, value, call, x=value)
        self.same(rule.at(Count(6)), rule.at(6))

    def test_no_renaming(self):
        for one, other in itertools.product(PLANS[::2], PLANS):
            found = Profile.of(one).first_difference(Profile.of(other))
            if found is not None:
                self.raises(NoRenaming, [found], Renaming, one, other)
                turned = Profile.of(other).first_difference(Profile.of(one))
                self.raises(NoRenaming, [turned], Renaming, other=one, one=other)
        self.raises(NoRenaming, [("speed", (-2, 1), 0, 1)], Renaming, FAN, SLIDE)
        self.raises(NoRenaming, [("speed", (-4, 1), 0, 2)], Renaming, SLIDE, SLIDE.power(2))
        self.raises(NoRenaming, [("length", 1, (1, 3), (0, 1))], Renaming, Plan([1, -1, 0]), Plan([1, -1]))

    def test_the_plans_stay(self):
        one, other = Plan([3, 1, -4]), FAN.renamed(NAMES[0])
        before = [one.offsets(), other.offsets()]
        rule = Renaming(one, other)
        rule.at(5), rule.back(5), rule.plan(), alike(one, other), shortest(other), renaming_fault(one, other, one)
        self.same([one.offsets(), other.offsets()], before)


class PlansOfRules(Case):

    def test_plans_and_periods_that_are_too_long(self):
        seen = []
        for one, other, rule in RULES:
            if rule.period > 2520:
                self.raises(TooLong, [rule.period], rule.plan)
                seen.append("long")
            else:
                plan = rule.plan()
                self.assertIs(plan.__class__, Plan)
                self.same([plan.at(x) for x in PLACES], [rule.at(x) for x in PLACES])
                self.same([plan.back(x) for x in PLACES], [rule.back(x) for x in PLACES])
                self.same(rule.period % plan.period, 0)
                if math.lcm(one.period, other.period, plan.period) <= 2520:
                    self.assertIsNone(renaming_fault(one, other, plan))
                    self.assertEqual(one.renamed(plan), other)
                seen.append("short")
        self.assertGreater(min(seen.count("long"), seen.count("short")), 20)

    def test_a_renaming_of_the_longest_plans(self):
        long = Plan.swapping(2520, (0, 1), (2, 4))
        rule = Renaming(long, long.renamed(Plan.shift(1)))
        self.same([rule.at(long.at(x)) for x in PLACES], [long.renamed(Plan.shift(1)).at(rule.at(x)) for x in PLACES])


class Faults(Case):

    def search(self, one, other, by):
        """The least fault, as a search through the places from 0 on tells."""
        wrong = [x for x in range(math.lcm(one.period, other.period, by.period))
                 if by.at(one.at(x)) != other.at(by.at(x))]
        return wrong[0] if wrong else None

    def test_no_fault(self):
        for plan, by in itertools.product(PLANS, NAMES):
            self.assertIsNone(renaming_fault(plan, plan.renamed(by), by))
            self.assertIsNone(renaming_fault(by=by.inverse(), other=plan, one=plan.renamed(by)))
            self.assertIsNone(renaming_fault(plan, plan, plan.power(3)))

    def test_against_a_search(self):
        small = [Plan(offsets) for offsets in SMALL_TABLES]
        seen = set()
        for one, other, by in itertools.product(small[::5], small[::4], small[::3]):
            expected = self.search(one, other, by)
            self.same(renaming_fault(one, other, by), expected)
            self.same(renaming_fault(by=by, other=other, one=one), expected)
            seen.add(expected)
        self.assertTrue({None, 0, 1, 2} <= seen)

    def test_late_faults(self):
        still = Plan.identity()
        for at in (0, 1, 7, 2518):
            self.same(renaming_fault(Plan.swapping(2520, (at, at + 1)), still, still), at)
            self.same(renaming_fault(still, Plan.swapping(2520, (at, at + 1)), still), at)
        last = Plan([0] * 2519 + [2520])
        self.same(renaming_fault(last, still, still), 2519)
        self.same(renaming_fault(last, last, Plan.swapping(2, (0, 1))), 2518)
        self.assertIsNone(renaming_fault(last, last, last))

    def test_too_long(self):
        for periods, multiple in (((2520, 11, 2), 27720), ((7, 19, 20), 2660), ((47, 61, 47), 2867)):
            for first, second, third in itertools.permutations(periods):
                plans = [with_period(first), with_period(second), with_period(third)]
                self.raises(TooLong, [multiple], renaming_fault, *plans)
        long, still = with_period(2520), Plan.identity()
        self.same(renaming_fault(long, still, with_period(8)), 0)
        self.raises(TooLong, [2520 * 11], renaming_fault, one=long, other=long, by=with_period(11))
        self.raises(TooLong, [2520 * 11], renaming_fault, with_period(11), with_period(11), long)


class Shortest(Case):

    def test_the_least_period_and_the_profile(self):
        for plan in PLANS + [Plan(offsets) for offsets in SMALL_TABLES] + [CROWDED]:
            found = shortest(plan)
            self.assertEqual((found.__class__, len(found)), (tuple, 2))
            least, rule = found
            self.assertIs(least.__class__, Plan)
            self.same(least.period, Profile.of(plan).least_period)
            self.assertEqual(Profile.of(least), Profile.of(plan))
            self.assertTrue(least.period <= plan.period)

    def test_the_renaming(self):
        for plan in PLANS[::2] + [plan.renamed(NAMES[2]) for plan in PLANS[1::2]]:
            least, rule = shortest(plan=plan)
            self.assertTrue(isinstance(rule, Renaming))
            for x in PLACES:
                self.same(rule.at(plan.at(x)), least.at(rule.at(x)))
                self.same(rule.back(rule.at(x)), x)

    def test_some_plans(self):
        other = FAN.renamed(Plan.swapping(2, (0, 1)))
        self.same([other.period, shortest(other)[0].period, shortest(FAN)[0].period], [6, 3, 3])
        self.same(shortest(Plan([HUGE - 1, HUGE + 1]))[0].period,
                  Profile.of(Plan([HUGE - 1, HUGE + 1])).least_period)
        self.assertEqual(shortest(Plan([6] * 3).renamed(NAMES[3]))[0], Plan.shift(6))
        self.assertEqual(shortest(Plan([0] * 5))[0], Plan.identity())

    def test_a_shortest_plan_is_not_shortened_again(self):
        for plan in PLANS:
            least = shortest(plan)[0]
            self.same(shortest(least)[0].period, least.period)


if __name__ == "__main__":
    unittest.main()
