import itertools
import unittest

import oracles
from threeswaps.errors import InvalidInteger, NoRenaming, TooLong
from threeswaps.mirrors import Mirror, mirrored, moves_product
from threeswaps.plans import Plan
from threeswaps.profiles import Profile
from threeswaps.rules import PlainRule, Rule
from threeswaps.swaps import Swap
from threeswaps.turns import MirrorRenaming, MirrorRule, mirror_factors, turn_factors
from rulecases import RuleCase, moved
from samples import (
    CLOSED_TABLES, CROWD, FAR, HUGE, PLACES, SMALL_TABLES, STILL_TABLES, STREETS, TABLES, Count, is_table,
    mirror_table, mixed_table,
)

FAN, SLIDE, TWIN, STILL = Plan([3, 1, -4]), Plan([2, -2]), Plan([4, 1, 7, 0]), Plan.identity()
PLANS = [Plan(offsets) for offsets in TABLES + STILL_TABLES[::3] + CLOSED_TABLES + [CROWD, STREETS]]
MIRRORS = [Mirror(mirror_table(offsets, around)) for offsets in TABLES + CLOSED_TABLES + STILL_TABLES[::4]
           for around in (0, 1, 5)]
NAMES = [Plan.swapping(2, (0, 1)), Plan(mixed_table(2, HUGE, 5)), Plan(mixed_table(3, 2, 4))]


def all_mirrors(period, most):
    """All mirrors with so many offsets from -most to most."""
    for offsets in itertools.product(range(-most, most + 1), repeat=period):
        if is_table([offset - 2 * at for at, offset in enumerate(offsets)]):
            yield Mirror(list(offsets))


SMALL_MIRRORS = [*all_mirrors(1, 3), *all_mirrors(2, 3), *all_mirrors(3, 2), *list(all_mirrors(4, 2))[::5]]


def is_turn(move):
    """Whether a move is its own inverse, as its moves tell."""
    return all(move.at(move.at(x)) == x for x in range(move.period))


class TurnCase(RuleCase):

    def is_turn_rule(self, rule, sign):
        """Check a rule that is its own inverse, and what its table tells; return whether it has one."""
        self.assertIs(isinstance(rule, MirrorRule), sign == -1)
        self.assertIs(isinstance(rule, PlainRule), sign == 1)
        self.is_rule(rule, sign)
        self.is_own_inverse(rule)
        move = self.has_table(rule, rule.mirror if sign == -1 else rule.plan)
        if move is not None:
            self.assertIs(move.__class__, Mirror if sign == -1 else Plan)
        return move is not None


class MirrorFactors(TurnCase):

    def check(self, plan):
        factors = mirror_factors(plan)
        self.assertEqual((factors.__class__, len(factors)), (list, 2))
        for x in PLACES:
            self.same(moved(factors, x), plan.at(x))
        return [self.is_turn_rule(factor, -1) for factor in factors]

    def test_the_factors(self):
        seen = []
        for plan in PLANS + [plan.renamed(by) for plan, by in zip(PLANS[::2], NAMES * 40)]:
            seen += self.check(plan)
        self.assertGreater(min(seen.count(True), seen.count(False)), 20)

    def test_small_plans(self):
        for table in SMALL_TABLES:
            self.check(Plan(table))

    def test_the_identity_and_shifts(self):
        for plan in (STILL, Plan.shift(1), Plan.shift(-7), Plan.shift(HUGE)):
            self.check(plan)
        first, second = mirror_factors(Plan.shift(1))
        self.same([second(first(8)), first(first(8)), second(second(8))], [9, 8, 8])
        # Mirror rules move nearly all places, so none of them is the identity.
        first, second = mirror_factors(STILL)
        self.assertEqual(first.mirror(), second.mirror())

    def test_long_plans(self):
        for plan in (Plan.swapping(2520, (0, 1), (2, 5)), Plan([2520] + [0] * 2519)):
            factors = mirror_factors(plan)
            for x in (0, 1, 2, 3, 2519, -1, FAR * 2520):
                self.same(moved(factors, x), plan.at(x))
                self.same([factor(factor(x)) for factor in factors], [x, x])

    def test_the_kind_and_the_names(self):
        for factor in mirror_factors(plan=FAN) + turn_factors(move=FAN)[:1] + turn_factors(Mirror([1, 3])):
            self.assertTrue(isinstance(factor, Rule))
            self.same([factor.at(x=5), factor(x=5), factor.back(x=5)], [factor.at(5), factor.at(5), factor.back(5)])
            self.same(factor.at(Count(4)), factor.at(4))
            self.wants_integers(factor.at, factor, factor.back)

    def test_mirrors_that_are_too_long(self):
        factor = mirror_factors(Plan([4 * HUGE, 1, 7, 0]))[0]
        self.raises(TooLong, [factor.period], factor.mirror)
        self.assertGreater(factor.period, 2520)

    def test_the_list_is_new_and_the_plan_stays(self):
        plan = Plan(STREETS)
        mirror_factors(plan).clear()
        turn_factors(plan).clear()
        self.assertEqual([len(mirror_factors(plan)), len(turn_factors(plan))], [2, 2])
        self.assertEqual(plan.offsets(), STREETS)

    def test_factors_by_turns(self):
        rules = mirror_factors(FAN) + mirror_factors(TWIN) + turn_factors(Mirror([1, 3]))
        expected = [[rule.at(x) for x in PLACES] for rule in rules]
        found = [[] for _ in rules]
        for x in PLACES:
            for number, rule in enumerate(rules):
                rule.back(x)
                found[number].append(rule.at(x))
        self.same(found, expected)


class TurnFactors(TurnCase):

    def check(self, move):
        """Check the factors of a move; return how many there are."""
        factors = turn_factors(move)
        self.assertIs(factors.__class__, list)
        still = move.SIGN == 1 and all(offset == 0 for offset in move.offsets())
        self.assertEqual(len(factors), 0 if still else 1 if is_turn(move) else 2)
        for x in PLACES:
            self.same(moved(factors, x), move.at(x))
        if len(factors) == 1:
            self.assertEqual(factors, [move])
            self.assertIs(factors[0].__class__, move.__class__)
        signs = [-1 if isinstance(factor, MirrorRule) else 1 for factor in factors]
        if len(factors) == 2:
            self.same(signs[0] * signs[1], move.SIGN)
            for factor, sign in zip(factors, signs):
                self.is_turn_rule(factor, sign)
                self.assertTrue(sign == -1 or isinstance(factor, Swap))
        return len(factors)

    def test_plans(self):
        seen = [self.check(plan) for plan in PLANS]
        self.assertTrue(all(seen.count(many) > 1 for many in (0, 1, 2)))

    def test_mirrors(self):
        seen = [self.check(mirror) for mirror in MIRRORS]
        self.assertGreater(min(seen.count(1), seen.count(2)), 50)
        self.assertEqual(seen.count(0), 0)

    def test_small_mirrors(self):
        seen = [self.check(mirror) for mirror in SMALL_MIRRORS]
        self.assertGreater(min(seen.count(1), seen.count(2)), 30)

    def test_products_of_turns(self):
        turns = [mirror for mirror in SMALL_MIRRORS if is_turn(mirror)][::3]
        turns += [Plan(table) for table in SMALL_TABLES if is_turn(Plan(table))][::2]
        for one, other in itertools.product(turns, repeat=2):
            self.check(moves_product(one, other))

    def test_mirrors_whose_rounds_have_odd_and_even_lengths(self):
        # Around its middle a mirror has rounds of other lengths than elsewhere.
        for plan in CLOSED_TABLES:
            for around in (0, 3, -4, HUGE):
                mirror = moves_product(Plan(plan), Mirror.around(around))
                self.check(mirror)
                self.check(moves_product(Mirror.around(1), mirror, Plan(plan), Mirror.around(around)))

    def test_some_moves(self):
        self.same([turn_factors(STILL), turn_factors(Mirror([1]))], [[], [Mirror([1])]])
        self.same([len(turn_factors(Mirror([1, 3]))), len(turn_factors(Plan.shift(1)))], [2, 2])
        self.same(turn_factors(Plan([1, -1])), [Plan([1, -1])])
        self.same(turn_factors(Mirror.around(HUGE)), [Mirror.around(HUGE)])

    def test_long_mirrors(self):
        mirror = Mirror(mirror_table(mixed_table(60, HUGE // 60, 8)))
        self.check(mirror)
        long = Mirror(mirror_table([1, 1, -2] + [0] * 2517, 0))
        factors = turn_factors(long)
        self.assertEqual(len(factors), 2)
        for x in (0, 1, 2, -1, -2, 2519, FAR * 2520):
            self.same(moved(factors, x), long.at(x))
            self.same([factor(factor(x)) for factor in factors], [x, x])


class MirrorRenamings(TurnCase):

    def pairs(self):
        for number, plan in enumerate(PLANS):
            yield plan, mirrored(plan)
            yield plan.renamed(NAMES[number % 3]), plan.inverse()
            yield mirrored(plan.renamed(Plan.shift(1))), plan.renamed(NAMES[number % 2])
            yield plan, Profile.of(plan).opposite().plan()
        yield SLIDE, SLIDE
        yield Plan([1, 1, -2, 0]), Plan([1, 1, -2, 0])

    def test_what_a_renaming_does(self):
        seen = []
        for one, other in self.pairs():
            rule = MirrorRenaming(one, other)
            self.is_rule(rule, -1)
            for x in PLACES:
                self.same(rule.at(one.at(x)), other.at(rule.at(x)))
                self.same(rule.back(other.at(x)), one.at(rule.back(x)))
            mirror = self.has_table(rule, rule.mirror)
            if mirror is not None:
                self.assertIs(mirror.__class__, Mirror)
            seen.append(mirror is not None)
        self.assertGreater(min(seen.count(True), seen.count(False)), 20)

    def test_the_kind_and_the_names(self):
        rule = MirrorRenaming(other=mirrored(FAN), one=FAN)
        self.assertTrue(isinstance(rule, MirrorRenaming) and isinstance(rule, MirrorRule) and isinstance(rule, Rule))
        self.assertFalse(isinstance(rule, PlainRule))
        self.same([rule.at(x=5), rule(x=5), rule.back(x=5)], [rule.at(5), rule.at(5), rule.back(5)])
        self.wants_integers(rule.at, rule, rule.back)

    def test_no_renaming(self):
        seen = []
        for one, other in itertools.product(PLANS[::2], PLANS[::3] + [mirrored(plan) for plan in PLANS[::5]]):
            found = Profile.of(one).first_difference(Profile.of(other).opposite())
            seen.append(found is None)
            if found is None:
                MirrorRenaming(one, other)
            else:
                self.raises(NoRenaming, [found], MirrorRenaming, one, other)
                self.raises(NoRenaming, [found], MirrorRenaming, other=other, one=one)
        self.assertGreater(min(seen.count(True), seen.count(False)), 20)

    def test_some_differences(self):
        self.raises(NoRenaming, [("speed", (-3, 1), 0, 1)], MirrorRenaming, FAN, FAN)
        self.raises(NoRenaming, [("speed", (-1, 1), 0, 1)], MirrorRenaming, Plan.shift(1), Plan.shift(1))
        self.raises(NoRenaming, [("speed", (-1, 1), 1, 0)], MirrorRenaming, Plan.shift(-1), Plan.shift(-1))
        self.raises(NoRenaming, [("speed", (2, 1), 2, 0)], MirrorRenaming, Plan.shift(2), Plan.shift(-3))
        self.raises(NoRenaming, [("length", 1, (1, 3), (0, 1))], MirrorRenaming, Plan([1, -1, 0]), Plan([1, -1]))

    def test_the_plans_stay(self):
        one, other = Plan([3, 1, -4]), Plan([-3, 4, -1])
        rule = MirrorRenaming(one, other)
        rule.at(5), rule.back(5), rule.period, mirror_factors(one), turn_factors(one)
        self.same([one.offsets(), other.offsets()], [[3, 1, -4], [-3, 4, -1]])

    def test_rounds_of_several_cycles(self):
        # The ranks of the rounds go down where those of one go up.
        plan = Plan([1, -1, 1, -1, 1, -1, 1, 1, -2, 0])
        self.assertEqual(len(oracles.cycles(plan.offsets())), 5)
        for by in NAMES:
            rule = MirrorRenaming(plan.renamed(by), plan)
            self.is_rule(rule, -1)
            for x in range(-60, 60):
                self.same(rule.at(plan.renamed(by).at(x)), plan.at(rule.at(x)))
        self.raises(InvalidInteger, [None], rule.at, None)


if __name__ == "__main__":
    unittest.main()
