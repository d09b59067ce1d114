import itertools
import math
import unittest

import oracles
from threeswaps.errors import InvalidInteger, NoRoot
from threeswaps.plans import Plan, product
from threeswaps.profiles import Profile
from threeswaps.roots import Root, exponent, is_root, order, root_bound
from threeswaps.rules import PlainRule, Rule
from threeswaps.tracks import Tracks
from rulecases import RuleCase, moved
from samples import (
    CLOSED_TABLES, CROWD, FAR, HUGE, NO_INTEGERS, PLACES, SMALL_TABLES, STREETS, TABLES, Count, mixed_table,
)

PLANS = [Plan(offsets) for offsets in TABLES]
SMALL = [Plan(offsets) for offsets in SMALL_TABLES]
FAN, SLIDE, TWIN, TURN = Plan([3, 1, -4]), Plan([2, -2]), Plan([4, 1, 7, 0]), Plan([1, 1, -2])
CLOSED = [Plan(offsets) for offsets in CLOSED_TABLES]


def with_lines():
    """Plans with lines, many of them with root bounds that have several divisors."""
    for plan in PLANS[::2] + [Plan(CROWD), Plan(STREETS), TWIN, SLIDE, FAN]:
        if any(drift for _, drift in oracles.cycles(plan.offsets())):
            yield from (plan, plan.power(2), plan.power(-3), plan.power(12))


LINED = list(with_lines())


def numbers_of_lines(plan):
    """A dict from the speeds to the numbers of lines, in ascending order."""
    found = {}
    for cycle, drift in oracles.cycles(plan.offsets()):
        if drift:
            speed = oracles.speed(plan.offsets(), cycle[0])
            found[speed] = found.get(speed, 0) + abs(drift)
    return {speed: found[speed] for speed in sorted(found)}


class RootBounds(RuleCase):

    def test_against_the_cycles(self):
        for plan in PLANS + CLOSED + LINED:
            self.same(root_bound(plan), math.gcd(*numbers_of_lines(plan).values()))
            self.same(root_bound(plan=plan), root_bound(plan))

    def test_some_bounds(self):
        self.same([root_bound(TWIN), root_bound(FAN), root_bound(Plan([1, -1])), root_bound(Plan.identity())],
                  [3, 1, 0, 0])
        self.same([root_bound(Plan.shift(n)) for n in (1, -1, 6, -6, HUGE, -HUGE)], [1, 1, 6, 6, HUGE, HUGE])
        self.same([root_bound(Plan(CROWD)), root_bound(Plan(STREETS)), root_bound(SLIDE.power(FAR))], [1, 3, FAR])
        self.same(root_bound(Plan([4 * HUGE, 10 * HUGE])), math.gcd(2 * HUGE, 5 * HUGE))


class Roots(RuleCase):

    def check(self, plan, k):
        """Check a root of a small order; tell whether it has a table."""
        root = Root(plan, k)
        self.is_rule(root)
        for x in PLACES:
            self.same(moved([root] * k, x), plan.at(x))
        table = self.has_table(root, root.plan)
        if table is not None:
            self.assertIs(table.__class__, Plan)
            self.assertEqual(table.power(k), plan)
            self.assertIs(is_root(plan, k, table), True)
        return table is not None

    def test_roots_of_plans_with_lines(self):
        seen = []
        for plan in LINED:
            for k in (1, 2, 3, 4, 6, 12):
                if root_bound(plan) % k == 0:
                    seen.append(self.check(plan, k))
        self.assertGreater(min(seen.count(True), seen.count(False)), 20)

    def test_roots_of_plans_without_lines(self):
        seen = [self.check(plan, k) for plan in CLOSED for k in (1, 2, 3, 4, 5, 6, 7, 8, 12, 30)]
        self.assertGreater(seen.count(True), 100)

    def test_lines_of_several_speeds_and_cycles(self):
        for lines, rounds, orders in (
                ({(6, 1): 2, (-6, 1): 4}, {}, (1, 2)),
                ({(6, 1): 2, (-4, 1): 2}, {2: (1, 12)}, (1, 2)),
                ({(9, 2): 3, (-9, 1): 3}, {}, (1, 3)),
                ({(12, 1): 6, (-24, 1): 6}, {1: (1, 8), 2: (1, 16)}, (1, 2, 3, 6))):
            plan = Profile(lines, rounds).plan()
            for by in (Plan.identity(), Plan(mixed_table(2, 3, 1)), Plan(mixed_table(4, HUGE, 2))):
                for k in orders:
                    self.check(plan.renamed(by), k)

    def test_great_orders_where_there_are_no_lines(self):
        seen = []
        for plan, k in itertools.product(CLOSED, (10 ** 59 + 1, 10 ** 60 - 1, 4 * (10 ** 59 + 7), 6 ** 76, 2 ** 199)):
            root = Root(plan, k)
            self.is_rule(root)
            for x in PLACES[::4]:
                self.same(root.at(plan.at(x)), plan.at(root.at(x)))
                seen.append(self.power(root, x, k))
                self.assertIn(seen[-1], (None, plan.at(x)))
            table = self.has_table(root, root.plan)
            if table is not None:
                self.assertEqual(table.power(k), plan)
        # Some rounds are too long to be walked, as k has many divisors in common with their lengths.
        self.assertGreater(len(seen) - seen.count(None), 200)

    def power(self, root, x, k):
        """The place to which k moves by a root lead from x, None if its round is too long to be walked."""
        walk = [x, root.at(x)]
        while walk[-1] != x and len(walk) < 300:
            walk.append(root.at(walk[-1]))
        return walk[k % (len(walk) - 1)] if walk[-1] == x else None

    def test_great_orders_where_there_are_lines(self):
        for plan in (Plan.shift(1), Plan.shift(-3), SLIDE, TWIN, FAN):
            for k in (HUGE, 10 ** 29 + 3):
                power = plan.power(-k)
                root, tracks = Root(power, k), Tracks(power)
                self.is_rule(root)
                for x in PLACES[::3]:
                    self.same(root.at(power.at(x)), power.at(root.at(x)))
                    walk = [moved([root] * n, x) for n in range(6)]
                    self.same([tracks.speed(y) for y in walk], [tracks.speed(x)] * 6)
                    if tracks.length(x) is None:
                        # Fewer than k moves by a root lead from one line to others.
                        pairs = itertools.combinations(walk, 2)
                        self.assertFalse(any(tracks.on_one_track(one, other) for one, other in pairs))

    def test_the_order_one(self):
        for plan in PLANS + CLOSED:
            root = Root(plan, 1)
            self.same([root.at(x) for x in PLACES], [plan.at(x) for x in PLACES])

    def test_roots_of_the_identity(self):
        for k in (1, 2, 12, 10 ** 59):
            root = Root(Plan.identity(), k)
            self.assertEqual(root.plan().power(k), Plan.identity())

    def test_the_kind_and_the_names(self):
        root = Root(k=3, plan=TWIN)
        self.assertTrue(isinstance(root, Root) and isinstance(root, PlainRule) and isinstance(root, Rule))
        self.same([root.at(x=5), root(x=5), root.back(x=5)], [root.at(5), root.at(5), root.back(5)])
        self.same(root(root(root(10 ** 30))), TWIN(10 ** 30))
        self.same(Root(TWIN, Count(3)).at(7), root.at(7))
        self.wants_integers(root.at, root, root.back)

    def test_roots_by_turns(self):
        first, second = Root(TWIN, 3), Root(TURN, 6)
        expected = [[root.at(x) for x in PLACES] for root in (first, second)]
        found = [[], []]
        for x in PLACES:
            for number, root in enumerate((first, second)):
                root.back(x)
                found[number].append(root.at(x))
        self.same(found, expected)

    def test_no_root(self):
        seen = set()
        for plan in PLANS + LINED:
            for k in (2, 3, 4, 5, 6, 12, 10 ** 59):
                wrong = [(speed, many) for speed, many in numbers_of_lines(plan).items() if many % k]
                if wrong:
                    speed, many = wrong[0]
                    self.raises(NoRoot, [(speed.numerator, speed.denominator), many], Root, plan, k)
                    self.raises(NoRoot, [(speed.numerator, speed.denominator), many], Root, k=k, plan=plan)
                    seen.add((len(numbers_of_lines(plan)), len(wrong)))
        self.assertTrue({(1, 1), (2, 1), (2, 2)} <= seen)

    def test_some_plans_without_root(self):
        self.raises(NoRoot, [(4, 1), 3], Root, TWIN, 2)
        self.raises(NoRoot, [(-3, 2), 1], Root, FAN, 2)
        self.raises(NoRoot, [(-36, 1), 12], Root, Plan([12, 12, -36]), 5)
        self.raises(NoRoot, [(-36, 1), 12], Root, Plan([12, 12, -36]), 8)
        self.raises(NoRoot, [(12, 1), 8], Root, Plan([12, 12, -36]), 12)
        self.raises(NoRoot, [(1, 1), 1], Root, Plan.shift(1), HUGE)
        # The least speed is told, not the first one of the table or the one with the fewest lines.
        mixed = Profile({(-12, 1): 4, (-4, 1): 1, (24, 1): 2, (8, 1): 1}, {1: (5, 24)}).plan()
        self.raises(NoRoot, [(-4, 1), 1], Root, mixed, 2)
        self.raises(NoRoot, [(-12, 1), 4], Root, mixed, 8)
        self.raises(NoRoot, [(-4, 1), 1], Root, mixed, 4)

    def test_wrong_orders(self):
        for value in NO_INTEGERS + [0, -1, -HUGE, Count(0)]:
            for plan in (TWIN, FAN, Plan.identity()):
                self.told_itself(InvalidInteger, value, Root, plan, value)
                self.told_itself(InvalidInteger, value, Root, k=value, plan=plan)
                self.told_itself(InvalidInteger, value, is_root, plan, value, plan)
                self.told_itself(InvalidInteger, value, is_root, by=plan, k=value, plan=plan)

    def test_the_plans_stay(self):
        plan, by = Plan([4, 1, 7, 0]), Plan([3, 1, -4])
        root = Root(plan, 3)
        root.at(5), root.back(5), root.period, root_bound(plan), is_root(plan, 3, by), order(plan), exponent(plan, by)
        self.same([plan.offsets(), by.offsets()], [[4, 1, 7, 0], [3, 1, -4]])


class IsRoot(RuleCase):

    def test_against_products(self):
        seen = []
        for by in SMALL[::3]:
            for k in range(1, 7):
                made = product(*[by] * k)
                for plan in [made] + SMALL[::7]:
                    found = is_root(plan, k, by)
                    self.assertIs(found, plan == made)
                    self.assertIs(is_root(by=by, k=k, plan=plan), found)
                    seen.append(found)
        self.assertGreater(min(seen.count(True), seen.count(False)), 100)

    def test_many_digits(self):
        for k in (FAR, HUGE * HUGE, 10 ** 60 - 1):
            self.assertIs(is_root(Plan.shift(k), k, Plan.shift(1)), True)
            self.assertIs(is_root(Plan.shift(k), k + 1, Plan.shift(1)), False)
            self.assertIs(is_root(SLIDE.power(k), k, SLIDE), True)
            self.assertIs(is_root(Plan.identity(), k, Plan.identity()), True)
            self.assertIs(is_root(TURN, 3 * k + 1, TURN), True)
            self.assertIs(is_root(TURN, 3 * k, TURN), False)
            self.assertIs(is_root(TURN, 3 * k + 2, TURN.inverse()), True)

    def test_some_roots(self):
        self.same([is_root(Plan([2]), 2, Plan([1])), is_root(Plan([2]), 1, Plan([1])), is_root(FAN, 1, FAN)],
                  [True, False, True])
        flip = Plan([1, -1])
        self.same([is_root(Plan.identity(), 2, flip), is_root(Plan.identity(), 3, flip)], [True, False])
        self.same([is_root(Plan.shift(2), 2, Plan([3, -1])), is_root(Plan.shift(2), 2, Plan([2, 0]))], [True, False])


class Orders(RuleCase):

    def test_against_powers(self):
        for plan in CLOSED + [plan for plan in PLANS + SMALL if not numbers_of_lines(plan)]:
            found = order(plan)
            self.assertEqual(plan.power(found), Plan.identity())
            self.assertFalse(any(plan.power(n) == Plan.identity() for n in range(1, found)))
            self.same(order(plan=plan), found)

    def test_plans_with_lines(self):
        for plan in LINED + [Plan.shift(1), Plan.shift(-HUGE)]:
            self.assertIsNone(order(plan))

    def test_some_orders(self):
        self.same([order(TURN), order(FAN), order(Plan.identity()), order(Plan([1, -1, 1, 1, -2]))], [3, None, 1, 6])
        self.same(order(Plan([1, 1, 1, 1, -4, 1, 1, -2, 1, -1])), 30)
        self.same(order(Plan([1] * 2519 + [-2519])), 2520)


class Exponents(RuleCase):

    def search(self, one, other):
        """What exponent must tell, by a search through small exponents."""
        found = [n for n in range(-40, 41) if one.power(n) == other]
        if numbers_of_lines(one):
            return (found[0], 0) if found else None
        least = min([n for n in range(1, 41) if one.power(n) == Plan.identity()])
        return (found[0] % least, least) if found else None

    def test_against_a_search(self):
        seen = []
        for one in SMALL[::4] + CLOSED[:12] + [FAN, TWIN, SLIDE]:
            for other in SMALL[::5] + [one.power(n) for n in (0, 1, 2, 3, -1, -4, 7)]:
                expected = self.search(one, other)
                self.same(exponent(one, other), expected)
                self.same(exponent(other=other, one=one), expected)
                seen.append(expected and expected[1])
        self.assertGreater(min(seen.count(None), seen.count(0), len(seen) - seen.count(None) - seen.count(0)), 50)

    def test_great_exponents(self):
        for plan in LINED:
            for n in (0, 1, -1, 17, -60, HUGE, -FAR):
                self.same(exponent(plan, plan.power(n)), (n, 0))
        for plan in CLOSED:
            for n in (0, 1, -1, 17, -60, HUGE, -FAR):
                self.same(exponent(plan, plan.power(n)), (n % order(plan), order(plan)))

    def test_an_order_that_no_search_reaches(self):
        lengths = [2, 3, 5, 7, 11, 13, 17, 19, 23, 29, 31, 37, 41, 43, 47, 53, 59]
        plan = Plan([offset for length in lengths for offset in [1] * (length - 1) + [1 - length]])
        whole = math.prod(lengths)
        self.same(order(plan), whole)
        for n in (0, 1, whole - 1, 10 ** 18 + 9):
            self.same(exponent(plan, plan.power(n)), (n, whole))
            self.same(exponent(plan, plan.power(n - 5 * whole)), (n, whole))

    def test_identities(self):
        still = Plan.identity()
        self.same(exponent(still, still), (0, 1))
        for plan in PLANS + CLOSED:
            self.same(exponent(plan, still), (0, 0 if numbers_of_lines(plan) else order(plan)))
            if plan != still:
                self.assertIsNone(exponent(still, plan))

    def test_no_powers(self):
        self.assertIsNone(exponent(FAN, SLIDE))
        self.assertIsNone(exponent(Plan.shift(2), Plan.shift(3)))
        self.assertIsNone(exponent(Plan.shift(2), Plan([2, 0, 1, 1])))
        self.assertIsNone(exponent(TURN, Plan([1, -1, 0])))
        # The rounds of the lengths 2 and 4 demand exponents that are even and odd.
        turns = Plan([1, -1, 1, 1, 1, -3])
        self.assertIsNone(exponent(turns, Plan([1, -1, 2, 2, -2, -2])))
        self.assertIsNone(exponent(turns, Plan([0, 0, 1, 1, 1, -3])))
        self.assertIsNone(exponent(Plan([1, -1, 1, 1, 1, -3, 0]), Plan([1, -1, 2, 2, -2, -2, 0])))
        self.assertIsNone(exponent(Plan([1, -1, 1, -1, 0, 0, 0]), Plan([1, -1, 0, 0, 0, 0, 0])))
        self.same(exponent(turns, Plan([0, 0, 2, 2, -2, -2])), (2, 4))
        # All lines move by one exponent, and the rounds by another one.
        mixed = Plan([4, 4, 1, -1])
        self.assertIsNone(exponent(mixed, Plan([4, 4, 0, 0])))
        self.assertIsNone(exponent(mixed, Plan([4, 8, 1, -1])))
        self.assertIsNone(exponent(mixed, Plan([4, 4, 5, 3, 4, 4, -3, -5])))
        self.same(exponent(mixed, Plan([-12, -12, 1, -1])), (-3, 0))


if __name__ == "__main__":
    unittest.main()
