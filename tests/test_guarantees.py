"""The guarantees of the document over many plans, by slow searches where one is possible."""

import itertools
import unittest

from threeswaps.cuts import down, up
from threeswaps.mirrors import Mirror, mirrored, move_power, moves_product
from threeswaps.plans import Plan
from threeswaps.profiles import Profile
from threeswaps.renamings import Renaming, alike, renaming_fault, shortest
from threeswaps.roots import Root, is_root, root_bound
from threeswaps.swaps import closed_factors, fewest_closed, fewest_swaps, is_factoring, swap_factors
from threeswaps.tracks import Tracks
from threeswaps.turns import MirrorRenaming, MirrorRule, mirror_factors, turn_factors
from rulecases import RuleCase, moved
from samples import CLOSED_TABLES, CROWD, FAR, PLACES, STILL_TABLES, STREETS, TABLES, all_tables, mixed_table

TINY = [Plan(offsets) for offsets in all_tables(1, 3) + all_tables(2, 2) + all_tables(3, 1)]
SMALL = [Plan(offsets) for offsets in all_tables(1, 3) + all_tables(2, 3) + all_tables(3, 2) + all_tables(4, 1)]
PLANS = [Plan(offsets) for offsets in TABLES[::2] + STILL_TABLES[::2] + CLOSED_TABLES[::2] + [CROWD, STREETS]]
PLANS += [Plan(mixed_table(period, reach, 3 * period)) for period in (10, 15, 20, 36, 60) for reach in (0, 1, 10 ** 20)]


def turns(period, most, sign):
    """All plans, or all mirrors, with so many offsets that are their own inverses."""
    for offsets in itertools.product(range(-most, most + 1), repeat=period):
        if all(back(offsets, sign, back(offsets, sign, x)) == x for x in range(period)):
            yield Plan(list(offsets)) if sign == 1 else Mirror(list(offsets))


def back(offsets, sign, x):
    """Where a table moves a place."""
    return sign * x + offsets[x % len(offsets)]


SWAPS = [*turns(1, 0, 1), *turns(2, 5, 1), *turns(3, 4, 1), *turns(4, 3, 1)]
MIRROR_SWAPS = [*turns(1, 4, -1), *turns(2, 4, -1), *turns(3, 3, -1)]


class TracksAndFlow(RuleCase):

    def test_each_place_lies_on_exactly_one_track(self):
        for plan in SMALL + PLANS[::3]:
            tracks = Tracks(plan)
            addresses = {x: tracks.address(x) for x in PLACES}
            self.assertEqual(len(set(addresses.values())), len(PLACES))
            for x, address in addresses.items():
                self.same(tracks.place(address), x)
                kind, number, block, index = tracks.address(plan.at(x))
                size = len(tracks.cycles()[number][0])
                following = (address[3] + 1) % size if kind == "round" else address[3] + 1
                self.same((kind, number, block, index), (*address[:3], following))

    def test_the_flow_at_each_cut(self):
        for plan in SMALL + PLANS:
            tracks = Tracks(plan)
            for cut in (0, 1, -5, FAR):
                self.same(up(plan, cut) - down(plan, cut), plan.flow)
            self.same(tracks.up - tracks.down, plan.flow)
            self.assertEqual(plan.flow * plan.period, sum(plan.offsets()))

    def test_the_flow_of_a_product(self):
        for one, other in itertools.product(TINY, repeat=2):
            self.same((one * other).flow, one.flow + other.flow)
            self.same(moves_product(one, other).flow, one.flow + other.flow)


class Alike(RuleCase):

    def test_renamed_plans_have_one_profile(self):
        for plan, by in itertools.product(SMALL[::3], TINY):
            self.assertIs(alike(plan, plan.renamed(by)), True)
            self.assertIsNone(renaming_fault(plan, plan.renamed(by), by))

    def test_plans_with_one_profile_have_a_renaming(self):
        by_profile = {}
        for plan in SMALL:
            by_profile.setdefault(str(Profile.of(plan)), []).append(plan)
        for plans in by_profile.values():
            for one, other in zip(plans, plans[1:] + plans[:1]):
                rule = Renaming(one, other)
                for x in PLACES[::2]:
                    self.same(rule.at(one.at(x)), other.at(rule.at(x)))

    def test_no_search_finds_a_renaming_of_plans_that_are_not_alike(self):
        for one, other in itertools.product(TINY, repeat=2):
            if not alike(one, other):
                for by in TINY:
                    self.assertIsNotNone(renaming_fault(one, other, by))

    def test_each_profile_belongs_to_a_plan(self):
        for lines, rounds in (({(5, 2): 1}, {1: (3, 5)}), ({}, {4: (1, 4)}), ({}, {2: (1, 6), 3: (2, 9)}),
                              ({(-9, 1): 9}, {}), ({(7, 1): 3, (-7, 2): 1}, {2: (1, 7)}), ({(-3, 2): 1, (9, 1): 3}, {})):
            profile = Profile(lines, rounds)
            self.assertEqual(Profile.of(profile.plan()), profile)


class Shortest(RuleCase):

    def test_the_period_of_each_renaming_is_a_multiple(self):
        for plan, by in itertools.product(SMALL[::2], TINY):
            least = Profile.of(plan).least_period
            self.same(plan.renamed(by).period % least, 0)
            self.same(plan.period % least, 0)

    def test_the_least_period_is_reached(self):
        for plan in SMALL + PLANS:
            least, rule = shortest(plan)
            self.same(least.period, Profile.of(plan).least_period)
            for x in PLACES[::5]:
                self.same(rule.at(plan.at(x)), least.at(rule.at(x)))


class Roots(RuleCase):

    def test_a_power_has_the_root(self):
        for plan, k in itertools.product(SMALL, (1, 2, 3, 4, 6)):
            power = plan.power(k)
            self.same(root_bound(power) % k, 0)
            root = Root(power, k)
            for x in PLACES[::4]:
                self.same(moved([root] * k, x), power.at(x))

    def test_no_search_finds_a_root_that_the_bound_forbids(self):
        for plan, k in itertools.product(TINY, (2, 3, 4)):
            found = [by for by in SMALL if is_root(plan, k, by)]
            if root_bound(plan) % k != 0:
                self.assertEqual(found, [])


class Swaps(RuleCase):

    def test_no_search_finds_fewer_swaps(self):
        self.assertGreater(len(SWAPS), 40)
        pairs = {tuple((one * other).offsets()) for one, other in itertools.product(SWAPS, repeat=2)}
        self.assertTrue(all(fewest_swaps(Plan(offsets)) <= 2 for offsets in pairs))
        for plan in SMALL + PLANS:
            if fewest_swaps(plan) in (None, 3):
                self.assertNotIn(tuple(plan.offsets()), pairs)
        for one, other in itertools.product(list(pairs)[::5], SWAPS[::3]):
            self.assertIn(fewest_swaps(Plan(one) * other), (0, 1, 2, 3))

    def test_the_factors(self):
        for plan in SMALL + PLANS:
            if plan.flow == 0:
                factors = swap_factors(plan)
                self.assertEqual(len(factors), fewest_swaps(plan))
                closed = closed_factors(plan)
                self.assertEqual(len(closed), fewest_closed(plan))
                self.assertTrue(len(factors) <= 3 and len(closed) <= 2)
                for x in PLACES[::2]:
                    self.same([moved(factors, x), moved(closed, x)], [plan.at(x)] * 2)
                    self.same([factor(factor(x)) for factor in factors], [x] * len(factors))
            else:
                self.same([fewest_swaps(plan), fewest_closed(plan)], [None, None])

    def test_two_swaps_turn_a_plan_round(self):
        for one, other in itertools.product(SWAPS[::2], SWAPS[::3]):
            plan = one * other
            self.assertIs(is_factoring(plan, [one, other]), True)
            self.assertEqual(plan.renamed(other), plan.inverse())
            self.assertEqual(Profile.of(plan), Profile.of(plan).opposite())


class Mirrors(RuleCase):

    def test_each_plan_is_a_product_of_two_mirror_swaps(self):
        for plan in SMALL + PLANS:
            factors = mirror_factors(plan)
            self.assertTrue(len(factors) == 2 and all(isinstance(factor, MirrorRule) for factor in factors))
            for x in PLACES[::3]:
                self.same(moved(factors, x), plan.at(x))
                self.same([factor(factor(x)) for factor in factors], [x, x])

    def test_each_product_of_turns_is_one_of_two_turns(self):
        for many in ((MIRROR_SWAPS, SWAPS, SWAPS), (SWAPS, MIRROR_SWAPS, MIRROR_SWAPS), (MIRROR_SWAPS,) * 3):
            for first, second, third in zip(many[0] * 2, many[1][3:] * 3, many[2][::-1] * 2):
                move = moves_product(first, second, third)
                factors = turn_factors(move)
                self.assertTrue(len(factors) <= 2)
                for x in PLACES[::3]:
                    self.same(moved(factors, x), move.at(x))
                    self.same([factor(factor(x)) for factor in factors], [x] * len(factors))

    def test_a_mirror_twice_goes_both_ways_alike(self):
        for mirror in MIRROR_SWAPS:
            self.assertEqual(moves_product(mirror, mirror), Plan.identity())
            for plan in TINY:
                twice = move_power(moves_product(mirror, plan), 2)
                self.assertEqual(Profile.of(twice), Profile.of(twice).opposite())

    def test_mirrored_plans(self):
        for plan in SMALL:
            self.assertEqual(Profile.of(mirrored(plan)), Profile.of(plan).opposite())
            rule = MirrorRenaming(plan, mirrored(plan))
            for x in PLACES[::4]:
                self.same(rule.at(plan.at(x)), mirrored(plan).at(rule.at(x)))


class Rules(RuleCase):

    def test_rules_of_long_plans(self):
        for plan in PLANS[-15:]:
            rules = [(rule, -1) for rule in mirror_factors(plan)]
            rules += [(shortest(plan)[1], 1), (Root(plan.power(6), 6), 1), (MirrorRenaming(plan, plan.inverse()), -1)]
            if plan.flow == 0:
                rules += [(rule, 1) for rule in swap_factors(plan) + closed_factors(plan)]
            for rule, sign in rules:
                self.is_rule(rule, sign)

    def test_rules_of_many_lines_of_many_speeds(self):
        drifts = [10 ** 28 + 2 * n + n * n for n in range(30)]
        alike_below = [-drift for drift in drifts]
        other_below = [(-1) ** n - drift for n, drift in enumerate(drifts)]
        for below, many in ((alike_below, 2), (other_below, 3)):
            plan = Plan([60 * drift for drift in drifts + below])
            self.same([plan.period, plan.flow, fewest_swaps(plan)], [60, 0, many])
            rules = [(rule, 1) for rule in swap_factors(plan) + closed_factors(plan) + [Root(plan.power(7), 7)]]
            rules += [(rule, -1) for rule in mirror_factors(plan) + [MirrorRenaming(plan, plan.inverse())]]
            for rule, sign in rules:
                self.is_rule(rule, sign)
            for x in PLACES[::4]:
                self.same(moved(swap_factors(plan), x), plan.at(x))


if __name__ == "__main__":
    unittest.main()
