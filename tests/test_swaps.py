import itertools
import math
import unittest
from fractions import Fraction

import oracles
from threeswaps.errors import InvalidInteger, NoFactors, TooLong
from threeswaps.plans import Plan, product
from threeswaps.profiles import Profile
from threeswaps.rules import PlainRule, Rule
from threeswaps.swaps import (
    ClosedRule, Swap, closed_factors, fewest_closed, fewest_swaps, is_factoring, swap_factors, unpaired,
)
from rulecases import RuleCase, moved
from samples import (
    CLOSED_TABLES, CROWD, FAR, HUGE, PLACES, SMALL_TABLES, STILL_TABLES, STREETS, TABLES, all_tables, mixed_table,
)

FAN, SLIDE, TURN, STILL = Plan([3, 1, -4]), Plan([2, -2]), Plan([1, 1, -2]), Plan.identity()
SMALL = [Plan(offsets) for offsets in SMALL_TABLES]
PLANS = [Plan(offsets) for offsets in TABLES + STILL_TABLES + CLOSED_TABLES + [CROWD]]
NAMES = [Plan.swapping(2, (0, 1)), Plan(mixed_table(2, HUGE, 5)), Plan(mixed_table(3, 2, 4))]


def of_profiles():
    """Plans with lines of several speeds and rounds of several lengths, which three swaps make, and renamed ones."""
    for lines, rounds in (
            ({(12, 1): 3, (-4, 1): 3}, {}),
            ({(6, 1): 1, (12, 1): 2, (-9, 1): 3}, {2: (1, 12), 3: (1, 18)}),
            ({(-12, 1): 4, (6, 1): 1, (12, 1): 3}, {1: (1, 4)}),
            ({(8, 1): 1, (-8, 3): 1}, {1: (1, 4), 4: (1, 16)}),
            ({(5, 2): 1, (-15, 2): 1}, {1: (2, 5), 5: (1, 75)}),
            ({(-20, 1): 5, (10, 1): 1, (20, 1): 1, (20, 3): 3}, {2: (3, 40)})):
        plan = Profile(lines, rounds).plan()
        yield from [plan, plan.inverse()] + [plan.renamed(by) for by in NAMES]


# All plans of flow 0 that the factors are made of.
FLOWLESS = [plan for plan in PLANS + list(of_profiles()) if plan.flow == 0]


def lines_by_speed(plan):
    """A dict from the speeds to the numbers of lines, as the cycles of the table tell."""
    found = {}
    for cycle, drift in oracles.cycles(plan.offsets()):
        if drift:
            speed = Fraction(plan.period * drift, len(cycle))
            found[speed] = found.get(speed, 0) + abs(drift)
    return found


def fewest(plan):
    """The least number of swaps, as the document's words tell it."""
    lines = lines_by_speed(plan)
    if all(offset == 0 for offset in plan.offsets()):
        return 0
    if all(plan.at(plan.at(x)) == x for x in range(plan.period)):
        return 1
    if all(lines[speed] == lines.get(-speed) for speed in lines):
        return 2
    return 3 if sum(plan.offsets()) == 0 else None


class Fewest(RuleCase):

    def test_against_the_document(self):
        seen = []
        for plan in PLANS + SMALL + FLOWLESS:
            self.same(fewest_swaps(plan), fewest(plan))
            self.same(fewest_swaps(plan=plan), fewest(plan))
            seen.append(fewest(plan))
        self.assertTrue(all(seen.count(many) > 5 for many in (0, 1, 2, 3, None)))

    def test_some_plans(self):
        self.same([fewest_swaps(plan) for plan in (SLIDE, FAN, Plan.shift(1), TURN, Plan([1, -1]), STILL)],
                  [2, 3, None, 2, 1, 0])
        self.same([fewest_swaps(Plan([6, -6])), fewest_swaps(Plan.shift(-HUGE)), fewest_swaps(Plan([0, 0, 0, 4]))],
                  [2, None, None])

    def test_no_product_of_swaps_needs_more(self):
        swaps = [plan for plan in SMALL + [Plan(offsets) for offsets in all_tables(4, 1)] if fewest(plan) == 1]
        seen = set()
        for one, other in itertools.product(swaps, repeat=2):
            made = one * other
            self.assertIn(fewest_swaps(made), (0, 1, 2))
            seen.add(fewest_swaps(made))
            third = swaps[(one.offsets()[0] + 3 * other.period) % len(swaps)]
            self.assertIn(fewest_swaps(made * third), (0, 1, 2, 3))
            seen.add(fewest_swaps(made * third))
        self.assertEqual(seen, {0, 1, 2, 3})

    def test_renamed_plans_and_inverses(self):
        for plan, by in itertools.product(PLANS[::2] + FLOWLESS[::3], NAMES):
            self.same(fewest_swaps(plan.renamed(by)), fewest_swaps(plan))
            self.same(fewest_swaps(plan.inverse()), fewest_swaps(plan))
            self.same(fewest_closed(plan.renamed(by)), fewest_closed(plan))


class Unpaired(RuleCase):

    def test_against_the_cycles(self):
        seen = set()
        for plan in PLANS + SMALL + FLOWLESS:
            lines = lines_by_speed(plan)
            expected = []
            for speed in sorted({abs(speed) for speed in lines}):
                up, down = lines.get(speed, 0), lines.get(-speed, 0)
                if up != down:
                    expected.append(((speed.numerator, speed.denominator), up, down))
            self.same(unpaired(plan), expected)
            self.same(unpaired(plan=plan), expected)
            seen.add(len(expected))
        self.assertTrue({0, 1, 2, 3} <= seen)

    def test_some_plans(self):
        self.same(unpaired(FAN), [((3, 2), 0, 1), ((3, 1), 1, 0)])
        self.same([unpaired(SLIDE), unpaired(STILL), unpaired(Plan.shift(-7))], [[], [], [((7, 1), 0, 7)]])
        self.same(unpaired(Plan([12, 12, -12, -36, 24, 0])),
                  [((12, 1), 4, 2), ((24, 1), 4, 0), ((36, 1), 0, 6)])

    def test_the_list_is_new(self):
        unpaired(FAN).clear()
        self.assertEqual(len(unpaired(FAN)), 2)


class SwapFactors(RuleCase):

    def check(self, plan):
        """Check the factors of a plan; return how many have a table."""
        factors = swap_factors(plan)
        self.assertIs(factors.__class__, list)
        self.assertEqual(len(factors), fewest(plan))
        for x in PLACES:
            self.same(moved(factors, x), plan.at(x))
        tables = []
        for factor in factors:
            self.assertTrue(isinstance(factor, Swap))
            self.is_rule(factor)
            self.is_own_inverse(factor)
            tables.append(self.has_table(factor, factor.plan))
        if None not in tables and math.lcm(*[table.period for table in tables]) <= 2520:
            self.assertIs(is_factoring(plan, tables), True)
        return [table is not None for table in tables]

    def test_the_factors(self):
        seen = []
        for plan in FLOWLESS:
            seen += self.check(plan)
        self.assertGreater(min(seen.count(True), seen.count(False)), 20)

    def test_small_plans(self):
        for plan in SMALL:
            if plan.flow == 0:
                self.check(plan)

    def test_the_example(self):
        first, second, third = swap_factors(FAN)
        self.same(third(second(first(10 ** 40))), FAN(10 ** 40))
        self.same([first(first(5)), first.back(first.at(-3)), second(second(5))], [5, -3, 5])

    def test_the_identity_and_swaps(self):
        self.assertEqual(swap_factors(STILL), [])
        for plan in (Plan([1, -1]), Plan([3, -3]), Plan([1, -1, 0]), Plan.swapping(6, (0, FAR * 6 + 1))):
            swap, = swap_factors(plan)
            self.assertEqual(swap.plan(), plan)

    def test_long_plans(self):
        for plan in (Plan.swapping(2520, (0, 1), (2, 5)), Plan([2521, -2521] + [0] * 2518),
                     Plan([2520] + [0] * 2518 + [-2520]), Plan([2520, 2520, -5040] + [0] * 2517)):
            factors = swap_factors(plan)
            for x in (0, 1, 2, 3, 2518, 2519, -1, FAR * 2520):
                self.same(moved(factors, x), plan.at(x))
                self.same([factor(factor(x)) for factor in factors], [x] * len(factors))

    def test_no_factors(self):
        seen = set()
        for plan in PLANS + SMALL:
            if plan.flow != 0:
                self.raises(NoFactors, [plan.flow], swap_factors, plan)
                self.raises(NoFactors, [plan.flow], swap_factors, plan=plan)
                seen.add(plan.flow > 0)
        self.assertEqual(seen, {True, False})
        self.raises(NoFactors, [-HUGE], swap_factors, Plan.shift(-HUGE))
        self.raises(NoFactors, [3], swap_factors, Plan(CROWD))

    def test_the_kind_and_the_names(self):
        for factor in swap_factors(plan=FAN) + swap_factors(SLIDE) + swap_factors(Plan([1, -1])):
            self.assertTrue(isinstance(factor, PlainRule) and isinstance(factor, Rule))
            self.same([factor.at(x=5), factor(x=5), factor.back(x=5)], [factor.at(5), factor.at(5), factor.back(5)])
            self.wants_integers(factor.at, factor, factor.back)

    def test_the_list_is_new_and_the_plan_stays(self):
        plan = Plan(STREETS)
        swap_factors(plan).clear()
        factors, again = swap_factors(plan), swap_factors(plan)
        self.same([moved(again, x) for x in PLACES], [moved(factors, x) for x in PLACES])
        self.assertEqual(plan.offsets(), STREETS)


class FewestClosed(RuleCase):

    def test_against_the_document(self):
        seen = []
        for plan in PLANS + SMALL + FLOWLESS:
            expected = 0 if plan == STILL else 1 if not lines_by_speed(plan) else None
            if expected is None and sum(plan.offsets()) == 0:
                expected = 2
            self.same(fewest_closed(plan), expected)
            self.same(fewest_closed(plan=plan), expected)
            seen.append(expected)
        self.assertTrue(all(seen.count(many) > 5 for many in (0, 1, 2, None)))

    def test_some_plans(self):
        self.same([fewest_closed(plan) for plan in (SLIDE, FAN, TURN, Plan.shift(1), STILL)], [2, 2, 1, None, 0])

    def test_products_of_closed_plans(self):
        closed = [plan for plan in SMALL if not lines_by_speed(plan)]
        for one, other in itertools.product(closed, repeat=2):
            self.assertIn(fewest_closed(one * other), (0, 1, 2))


class ClosedFactors(RuleCase):

    def check(self, plan):
        """Check the factors of a plan; return the lengths of rounds that are met."""
        factors = closed_factors(plan)
        self.assertIs(factors.__class__, list)
        self.assertEqual(len(factors), fewest_closed(plan))
        for x in PLACES:
            self.same(moved(factors, x), plan.at(x))
        tables = []
        for factor in factors:
            self.assertTrue(isinstance(factor, ClosedRule))
            self.is_rule(factor)
            tables.append(self.has_table(factor, factor.plan))
        if None not in tables and math.lcm(*[table.period for table in tables]) <= 2520:
            self.assertIs(is_factoring(plan, tables, closed=True), True)
        return {self.lap(factor, x) for factor in factors for x in PLACES}

    def lap(self, factor, x):
        """The length of the round of x, as a walk along it tells."""
        length = factor.length_at(x)
        self.assertIs(length.__class__, int)
        self.same(factor.length_at(factor.at(x)), length)
        if length > 500:
            return None
        walk = [factor.at(x)]
        while walk[-1] != x and len(walk) <= length:
            walk.append(factor.at(walk[-1]))
        self.same(len(walk), length)
        return length

    def test_the_factors(self):
        seen = set()
        for plan in FLOWLESS:
            seen |= self.check(plan)
        self.assertTrue({1, 2, 3, 4, 5, 6, None} <= seen)

    def test_small_plans(self):
        for plan in SMALL:
            if plan.flow == 0:
                self.check(plan)

    def test_lengths_that_no_walk_reaches(self):
        plan = Plan([6 * HUGE, 3 * HUGE, -9 * HUGE])
        first, second = closed_factors(plan)
        lengths = {first.length_at(x) for x in PLACES}
        self.assertTrue(all(length > 1 for length in lengths))
        self.assertEqual({second.length_at(x) for x in PLACES} - {1, 2}, set())

    def test_closed_plans(self):
        for table in CLOSED_TABLES[1:]:
            factor, = closed_factors(Plan(table))
            self.assertEqual(factor.plan(), Plan(table))
            for x in PLACES:
                self.same(factor.length_at(x), len(oracles.cycles(table)[oracles.address(table, x)[1]][0]))
        self.assertEqual(closed_factors(STILL), [])

    def test_no_factors(self):
        for plan in PLANS + SMALL:
            if plan.flow != 0:
                self.raises(NoFactors, [plan.flow], closed_factors, plan)
                self.raises(NoFactors, [plan.flow], closed_factors, plan=plan)

    def test_the_kind_and_the_names(self):
        for factor in closed_factors(plan=FAN) + closed_factors(SLIDE) + closed_factors(TURN):
            self.assertTrue(isinstance(factor, PlainRule) and isinstance(factor, Rule))
            self.same([factor.at(x=5), factor(x=5), factor.back(x=5)], [factor.at(5), factor.at(5), factor.back(5)])
            self.same(factor.length_at(x=5), factor.length_at(5))
            self.wants_integers(factor.at, factor, factor.back, factor.length_at)

    def test_the_list_is_new_and_the_plan_stays(self):
        plan = Plan(STREETS)
        closed_factors(plan).clear()
        self.assertEqual(len(closed_factors(plan)), 2)
        fewest_closed(plan), fewest_swaps(plan), unpaired(plan)
        self.assertEqual(plan.offsets(), STREETS)


class Factorings(RuleCase):

    def test_right_factors(self):
        self.assertIs(is_factoring(SLIDE, [Plan([3, -3]), Plan([1, -1])]), True)
        self.assertIs(is_factoring(SLIDE, (Plan([3, -3]), Plan([1, -1]))), True)
        self.assertIs(is_factoring(factors=[Plan([3, -3]), Plan([1, -1])], plan=SLIDE), True)
        self.assertIs(is_factoring(STILL, []), True)
        self.assertIs(is_factoring(STILL, ()), True)
        self.assertIs(is_factoring(STILL, [], closed=True), True)
        self.assertIs(is_factoring(STILL, [STILL, STILL]), True)
        self.assertIs(is_factoring(Plan([1, -1]), [Plan([1, -1])]), True)
        self.assertIs(is_factoring(Plan([1, -1]), [Plan([1, -1])] * 5), True)
        self.assertIs(is_factoring(TURN, [TURN], closed=True), True)

    def test_wrong_factors(self):
        self.assertIs(is_factoring(SLIDE, [Plan([1, -1]), Plan([3, -3])]), False)
        self.assertIs(is_factoring(SLIDE, []), False)
        self.assertIs(is_factoring(SLIDE, [], closed=True), False)
        self.assertIs(is_factoring(STILL, [Plan([1, -1])]), False)
        self.assertIs(is_factoring(SLIDE, [Plan([3, -3])]), False)
        self.assertIs(is_factoring(SLIDE, [Plan([3, -3]), Plan([1, -1]), Plan([1, -1])]), False)

    def test_factors_that_are_no_swaps(self):
        for factors in ([TURN], [TURN, STILL], [STILL, TURN], [TURN, TURN, TURN, TURN]):
            self.assertIs(is_factoring(TURN, factors), False)
            self.assertIs(is_factoring(TURN, factors, closed=False), False)
            self.assertIs(is_factoring(TURN, factors, closed=True), True)
        self.assertIs(is_factoring(STILL, [TURN, TURN.inverse()]), False)
        self.assertIs(is_factoring(STILL, [SLIDE, SLIDE.inverse()]), False)
        self.assertIs(is_factoring(Plan([1, -1]), [Plan([1, -1]), TURN, TURN.inverse()]), False)

    def test_factors_that_are_not_closed(self):
        for factors in ([SLIDE], [SLIDE, STILL], [Plan.shift(1), Plan.shift(-1), SLIDE], [FAN, FAN.inverse(), SLIDE]):
            self.assertIs(is_factoring(SLIDE, factors, closed=True), False)
            self.assertIs(is_factoring(SLIDE, factors), False)
        self.assertIs(is_factoring(SLIDE, [Plan([3, -3]), Plan([1, -1])], closed=True), True)
        self.assertIs(is_factoring(SLIDE, [Plan([1, -1]), Plan([3, -3])], closed=True), False)

    def test_against_products(self):
        seen = []
        some = [plan for plan in SMALL if plan.flow == 0]
        for one, other in itertools.product(some, repeat=2):
            for plan in (one * other, other * one):
                swaps = fewest(one) in (0, 1) and fewest(other) in (0, 1)
                closed = not lines_by_speed(one) and not lines_by_speed(other)
                right = plan == one * other
                self.assertIs(is_factoring(plan, [one, other]), right and swaps)
                self.assertIs(is_factoring(plan, [one, other], closed=True), right and closed)
                seen.append((right, swaps, closed))
        for right, swaps, closed in itertools.product((True, False), repeat=3):
            if closed or not swaps:
                self.assertIn((right, swaps, closed), seen)

    def test_too_long(self):
        long, late = Plan.swapping(2520, (0, 1)), Plan.swapping(16, (0, 1))
        for plan in (STILL, SLIDE, long):
            for closed in (False, True):
                self.raises(TooLong, [5040], is_factoring, plan, [long, late], closed=closed)
                self.raises(TooLong, [5040], is_factoring, plan, (late, late, long, long), closed=closed)
        shifts = [Plan([13] + [0] * 12), Plan([17] + [0] * 16), Plan([19] + [0] * 18)]
        self.raises(TooLong, [13 * 17 * 19], is_factoring, SLIDE, shifts)
        self.raises(TooLong, [13 * 17 * 19], is_factoring, plan=SLIDE, factors=shifts, closed=True)
        # The period of the plan does not count, nor that of the product.
        self.assertIs(is_factoring(long, [late]), False)
        self.assertIs(is_factoring(long, [long, Plan.swapping(8, (0, 1)), Plan.swapping(8, (0, 1))]), True)

    def test_the_factors_stay(self):
        factors = [Plan([3, -3]), Plan([1, -1])]
        is_factoring(SLIDE, factors)
        self.assertEqual(factors, [Plan([3, -3]), Plan([1, -1])])


class Repeated(RuleCase):

    def test_factors_by_turns(self):
        rules = swap_factors(FAN) + closed_factors(FAN) + swap_factors(SLIDE)
        expected = [[rule.at(x) for x in PLACES] for rule in rules]
        found = [[] for _ in rules]
        for x in PLACES:
            for number, rule in enumerate(rules):
                rule.back(x)
                found[number].append(rule.at(x))
        self.same(found, expected)


if __name__ == "__main__":
    unittest.main()
