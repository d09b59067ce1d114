import itertools
import math
import unittest

from threeswaps.errors import InvalidInteger, InvalidPair, InvalidTable, TooLong
from threeswaps.plans import Move, Plan, product
from cases import Case
from samples import (
    FAR, HUGE, NO_INTEGERS, NO_LISTS, PLACES, SMALL_TABLES, TABLES, VAST, Count, Pair, Sly, Thing, Wild, is_table,
    mixed_table,
)

PLANS = [Plan(offsets) for offsets in TABLES]
FAN, SLIDE, TURN = Plan([3, 1, -4]), Plan([2, -2]), Plan([1, 1, -2])
LONG = mixed_table(2520, 3, 1)


def with_period(period):
    """A plan that has just this period, from 2 on."""
    return Plan([1, -1] + [0] * (period - 2))


def moves(plan, places=PLACES):
    """Where a plan moves the places."""
    return [plan.at(x) for x in places]


def moves_by_all(plans):
    """Where the plans, one after another, move the places."""
    places = PLACES
    for plan in plans:
        places = moves(plan, places)
    return places


class WrongTables(Case):

    def wrong(self, told, offsets):
        self.raises(InvalidTable, told, Plan, offsets)
        self.raises(InvalidTable, told, Plan, offsets=offsets)

    def test_what_is_no_list(self):
        for value in NO_LISTS + [Plan([0]), Plan]:
            self.wrong(("table", None, None), value)

    def test_what_is_no_integer(self):
        for value in NO_INTEGERS:
            self.wrong(("integer", 0, None), [value])
            self.wrong(("integer", 0, None), (value,))
            for at in range(6):
                offsets = [1, -1, 0, 2, 0, -2]
                offsets[at] = value
                self.wrong(("integer", at, None), offsets)
                self.wrong(("integer", at, None), tuple(offsets))

    def test_the_first_that_is_no_integer(self):
        for first, second in itertools.combinations(range(6), 2):
            offsets = [0] * 6
            offsets[first], offsets[second] = True, "1"
            self.wrong(("integer", first, None), offsets)

    def test_bools_are_no_offsets(self):
        self.wrong(("integer", 0, None), [True, -1])
        self.wrong(("integer", 0, None), [False])
        self.wrong(("integer", 1, None), [0, False])

    def test_meetings(self):
        self.wrong(("meeting", 1, 0), [1, 0])
        self.wrong(("meeting", 1, 0), (0, -1))
        self.wrong(("meeting", 3, 1), [0, 5, 0, -2, 2])
        self.wrong(("meeting", 3, 2), [0, 0, 1, 0])
        self.wrong(("meeting", 1, 0), [HUGE * 2 + 1, HUGE * 2])

    def test_meetings_against_a_search(self):
        for period in (2, 3, 4):
            for offsets in itertools.product(range(-2, 3), repeat=period):
                ends = [(at + offset) % period for at, offset in enumerate(offsets)]
                met = [at for at in range(period) if ends[at] in ends[:at]]
                if met:
                    self.wrong(("meeting", met[0], ends.index(ends[met[0]])), list(offsets))
                else:
                    self.assertEqual(moves(Plan(offsets)), [x + offsets[x % period] for x in PLACES])

    def test_the_least_position_of_several_meetings(self):
        self.wrong(("meeting", 2, 1), [0, 0, -1, -3])
        self.wrong(("meeting", 3, 0), [0, 0, 0, -3, -3])
        self.wrong(("meeting", 1, 0), [2, 1, 0])

    def test_the_number_of_items(self):
        for many in (2521, 2522, 5040):
            self.raises(TooLong, [many], Plan, [0] * many)
            self.raises(TooLong, [many], Plan, (0,) * many)
        self.assertEqual(Plan([0] * 2520), Plan([0]))
        self.assertEqual(Plan((0,) * 2519).period, 1)

    def test_which_error_is_due(self):
        self.raises(TooLong, [2521], Plan, ["x", True] + [1, 0] * 1259 + [0])
        self.raises(TooLong, [2521], Plan, [1, 0] + [0] * 2519)
        self.wrong(("integer", 2, None), [1, 0, "x"])
        self.wrong(("integer", 2519, None), [1, 0] + [0] * 2517 + [None])
        self.wrong(("meeting", 1, 0), [1, 0] + [0] * 2518)
        self.wrong(("table", None, None), "x" * 2521)


class Tables(Case):

    def test_lists_and_tuples(self):
        for offsets in TABLES:
            plan = Plan(offsets)
            self.assertEqual(moves(plan), [x + offsets[x % len(offsets)] for x in PLACES])
            self.assertEqual(plan, Plan(tuple(offsets)))
            self.assertEqual(plan, Plan(offsets=offsets))

    def test_the_least_period(self):
        for offsets in TABLES + SMALL_TABLES:
            many = len(offsets)
            fits = [n for n in range(1, many + 1)
                    if all(offsets[at % many] == offsets[(at + n) % many] for at in range(many))]
            plan = Plan(offsets)
            self.same(plan.period, fits[0])
            self.same(plan.offsets(), offsets[:fits[0]])

    def test_tables_that_are_written_several_times(self):
        for offsets in ([0], [2, -2], [3, 1, -4], [1, 1, 1, -3], [2, -2, 6, -6]):
            for times in (1, 2, 3, 4, 7, 60):
                plan = Plan(offsets * times)
                self.same(plan.offsets(), offsets)
                self.same(plan.period, len(offsets))
                self.assertEqual(plan, Plan(offsets))

    def test_one_offset_that_is_changed_by_a_multiple_of_the_length(self):
        for at in range(12):
            for times in (1, -1, HUGE):
                offsets = [2, -2] * 6
                offsets[at] += 12 * times
                plan = Plan(offsets)
                self.same(plan.period, 12)
                self.same(plan.offsets(), offsets)
                self.assertNotEqual(plan, SLIDE)

    def test_long_tables(self):
        self.assertTrue(is_table(LONG))
        self.same(Plan(LONG).offsets(), LONG)
        self.same(Plan(LONG).period, 2520)
        half = mixed_table(1260, 2, 2)
        self.same(Plan(half * 2).offsets(), half)
        self.same(Plan([0, 1, -1] * 840).offsets(), [0, 1, -1])
        ends = [0] * 2519 + [2520]
        self.same(Plan(ends).offsets(), ends)

    def test_no_period_but_the_divisors_of_the_length(self):
        self.same(Plan([1, -1, 1, -1, 7, -7]).period, 6)
        self.same(Plan([0, 0, 0, 4]).period, 4)
        self.same(Plan([1, -1, 0, 1, -1, 0]).period, 3)
        self.same(Plan([1, -1, 1, -1, 1, -1]).period, 2)

    def test_equality(self):
        for one, other in itertools.product(PLANS, repeat=2):
            alike = moves(one, range(-60, 60)) == moves(other, range(-60, 60))
            self.assertIs(one == other, alike)
            self.assertIs(one != other, not alike)

    def test_a_plan_is_equal_to_no_other_value(self):
        for value in NO_INTEGERS + [0, 2, [2, -2], (2, -2), "[2,-2]", "Plan([2, -2])", HUGE, Move, Plan, {0: 2, 1: -2}]:
            self.assertIs(SLIDE == value, False)
            self.assertIs(SLIDE != value, True)
        self.assertIs(Plan([5]) == 5, False)
        self.assertIs(Plan([5]) == [5], False)

    def test_length(self):
        for plan in PLANS:
            self.same(len(plan), plan.period)
        self.same(len(Plan([0] * 100)), 1)
        self.same(len(Plan(LONG)), 2520)

    def test_text(self):
        for value, text in ((SLIDE, "[2,-2]"), (Plan([0]), "[0]"), (Plan((3, 1, -4, 3, 1, -4)), "[3,1,-4]"),
                            (Plan([HUGE]), f"[{HUGE}]"), (Plan([-HUGE * 4, 0, 0, 0]), f"[{-HUGE * 4},0,0,0]")):
            self.same(str(value), text)
        for value, text in ((SLIDE, "Plan([2, -2])"), (Plan((0, 0)), "Plan([0])"), (FAN, "Plan([3, 1, -4])"),
                            (Plan([HUGE]), f"Plan([{HUGE}])")):
            self.assertEqual(repr(value), text)
        self.same(str(Plan(LONG)), "[" + ",".join(str(offset) for offset in LONG) + "]")

    def test_the_list_that_was_passed_is_copied(self):
        offsets = [3, 1, -4]
        plan = Plan(offsets)
        self.assertEqual(offsets, [3, 1, -4])
        offsets[0] = 7
        offsets.append(0)
        self.same(plan.offsets(), [3, 1, -4])
        self.same([plan.at(0), plan.back(3), plan.period], [3, 0, 3])

    def test_the_list_that_was_told_is_new(self):
        plan = Plan([3, 1, -4])
        told = plan.offsets()
        told[0] = 7
        told.clear()
        self.same(plan.offsets(), [3, 1, -4])
        self.same([plan.at(0), plan.back(3), plan.period, plan.flow, str(plan)], [3, 0, 3, 0, "[3,1,-4]"])
        self.assertIsNot(plan.offsets(), plan.offsets())
        inverse = plan.inverse()
        inverse.offsets().clear()
        self.same(plan.back(3), 0)

    def test_moves(self):
        self.assertTrue(issubclass(Plan, Move))
        self.same([Move.MAX_PERIOD, Plan.MAX_PERIOD, Plan.SIGN], [2520, 2520, 1])


class Places(Case):

    def test_at_and_call_and_back(self):
        for offsets in TABLES:
            plan = Plan(offsets)
            for x in PLACES:
                there = x + offsets[x % len(offsets)]
                self.same([plan.at(x), plan(x), plan.at(x=x), plan(x=x)], [there] * 4)
                self.same([plan.back(there), plan.back(x=there)], [x, x])
                self.same(plan.at(plan.back(x)), x)

    def test_a_shifted_place(self):
        for plan in PLANS:
            for x in PLACES[:9]:
                self.same(plan.at(x + plan.period * FAR), plan.at(x) + plan.period * FAR)
                self.same(plan.back(x - plan.period * FAR), plan.back(x) - plan.period * FAR)

    def test_exactly_one_thing_comes_to_each_place(self):
        for plan in PLANS:
            if max(plan.offsets()) < 100 and min(plan.offsets()) > -100:
                ends = sorted(moves(plan, range(-300, 300)))
                self.assertEqual([x for x in ends if -150 <= x < 150], list(range(-150, 150)))

    def test_no_integers(self):
        for value in NO_INTEGERS:
            for call in (FAN.at, FAN, FAN.back, Plan([0]).at, Plan([0]), Plan([0]).back):
                self.told_itself(InvalidInteger, value, call, value)
                self.told_itself(InvalidInteger, value, call, x=value)

    def test_kinds_of_integers(self):
        self.assertEqual([FAN.at(Count(4)), FAN(Count(4)), FAN.back(Count(4))], [5, 5, 8])
        self.same(SLIDE.at(VAST), VAST - 2)


class Makers(Case):

    def test_identity(self):
        self.assertEqual(Plan.identity(), Plan([0]))
        self.assertEqual(moves(Plan.identity()), PLACES)
        self.assertIs(Plan.identity().__class__, Plan)

    def test_shift(self):
        for n in (0, 1, -1, 7, HUGE, -HUGE, -VAST):
            self.assertEqual(Plan.shift(n), Plan([n]))
            self.assertEqual(moves(Plan.shift(n=n)), [x + n for x in PLACES])
        for value in NO_INTEGERS:
            self.told_itself(InvalidInteger, value, Plan.shift, value)
            self.told_itself(InvalidInteger, value, Plan.shift, n=value)


class Swapping(Case):

    def check(self, period, *pairs):
        plan = Plan.swapping(period, *pairs)
        ends = {}
        for one, other in pairs:
            ends[one % period], ends[other % period] = other - one, one - other
        self.assertEqual(moves(plan), [x + ends.get(x % period, 0) for x in PLACES])
        self.assertEqual(moves(plan, moves(plan)), PLACES)
        for a, b in pairs:
            for k in (0, 1, -1, FAR):
                self.same([plan.at(a + k * period), plan.at(b + k * period)], [b + k * period, a + k * period])

    def test_no_pairs(self):
        for period in (1, 2, 7, 2520):
            self.assertEqual(Plan.swapping(period), Plan.identity())
        self.assertEqual(Plan.swapping(period=5), Plan.identity())

    def test_one_pair(self):
        self.same(Plan.swapping(2, (0, 3)).offsets(), [3, -3])
        self.same(Plan.swapping(4, (1, 3)).offsets(), [0, 2, 0, -2])
        self.same(Plan.swapping(4, (3, 1)).offsets(), [0, 2, 0, -2])
        self.check(2, (0, 1))
        self.check(3, (1, 5))

    def test_many_pairs(self):
        self.check(7, (0, 1), (2, 3), (4, 5))
        self.check(6, (0, 5), (7, 4), (-4, 9))
        self.check(2520, *[(n, n + 1260) for n in range(1260)])
        self.check(2520, *[(n, 2519 - n) for n in range(1260)])

    def test_great_and_negative_places(self):
        self.check(5, (-1, -7), (FAR, FAR + 4))
        self.check(2, (-FAR, FAR + 3))
        self.check(10, (Count(3), Count(-1)), Pair(6, 8))

    def wrong(self, position, period, *pairs):
        kept = list(pairs)
        self.raises(InvalidPair, [position], Plan.swapping, period, *pairs)
        self.assertTrue(all(here is there for here, there in zip(kept, pairs)))

    def test_what_is_no_pair(self):
        values = NO_INTEGERS + [
            3, (3,), (3, 4, 5), [3, 4], (3, "4"), ("3", 4), (True, 4), (4, True), (False, 3), (3, False), (3, None),
            ([3], 4), ((3, 4),), "34", {3: 4}, {3, 4}, (Sly(), 4), (3, Wild()), (Thing(), Thing()), range(3, 5),
        ]
        for value in values:
            if value.__class__ is not tuple or value != (1, 2):
                self.wrong(0, 6, value)
                self.wrong(1, 6, (0, 5), value)
                self.wrong(2, 6, (0, 5), (1, 2), value, "x", (0, 5))

    def test_a_pair_with_one_remainder(self):
        for period, pair in ((1, (0, 1)), (1, (3, 3)), (2, (0, 2)), (2, (-1, 1)), (5, (3, 3)), (5, (-2, 3)),
                             (7, (FAR, FAR + 7 * HUGE))):
            self.wrong(0, period, pair)
        self.wrong(1, 5, (0, 1), (2, 7))

    def test_a_remainder_of_an_earlier_pair(self):
        for late in ((0, 2), (2, 0), (1, 2), (2, 1), (0, 1), (1, 0), (6, 3), (3, -5), (-6, 2)):
            self.wrong(1, 6, (0, 1), late)
            self.wrong(2, 6, (0, 1), (4, 5), late)
            self.wrong(2, 6, (4, 5), (0, 1), late)

    def test_the_first_wrong_pair(self):
        self.wrong(1, 6, (0, 1), (1, 2), "x")
        self.wrong(0, 6, [0, 1], (1, 2), (1, 2))
        self.wrong(2, 9, (0, 1), (2, 3), (4, 4), (0, 1), None)

    def test_wrong_periods(self):
        for value in NO_INTEGERS + [0, -1, -HUGE, Count(0)]:
            self.told_itself(InvalidInteger, value, Plan.swapping, value)
            self.told_itself(InvalidInteger, value, Plan.swapping, value, (0, 0), "x")
            self.told_itself(InvalidInteger, value, Plan.swapping, period=value)

    def test_periods_that_are_too_long(self):
        for period in (2521, 5040, HUGE):
            self.raises(TooLong, [period], Plan.swapping, period)
            self.raises(TooLong, [period], Plan.swapping, period, (0, 1))
            self.raises(TooLong, [period], Plan.swapping, period, (0, 0), "x")


class Products(Case):

    def test_then(self):
        for one, other in itertools.product(PLANS[::2], PLANS[1::2]):
            expected = moves(other, moves(one))
            for made in (one.then(other), one.then(other=other), one * other, product(one, other)):
                self.assertIs(made.__class__, Plan)
                self.assertEqual(moves(made), expected)

    def test_the_first_plan_is_done_first(self):
        self.same((SLIDE * Plan.shift(1)).offsets(), [3, -1])
        self.same((Plan.shift(1) * SLIDE).offsets(), [-1, 3])
        self.same(SLIDE.then(FAN).offsets(), product(SLIDE, FAN).offsets())
        self.assertNotEqual(SLIDE.then(FAN), FAN.then(SLIDE))

    def test_no_plans_and_one(self):
        self.assertEqual(product(), Plan.identity())
        for plan in PLANS:
            self.assertEqual(product(plan), plan)
            self.assertEqual(product(plan, Plan.identity()), plan)
            self.assertEqual(Plan.identity() * plan, plan)

    def test_many_plans(self):
        for first in range(len(PLANS) - 5):
            plans = PLANS[first:first + 5]
            if math.lcm(*[plan.period for plan in plans]) <= 2520:
                self.assertEqual(moves(product(*plans)), moves_by_all(plans))
        self.assertEqual(product(*[Plan.shift(HUGE)] * 300), Plan.shift(300 * HUGE))

    def test_the_product_has_its_least_period(self):
        self.same(product(SLIDE, SLIDE.inverse()).offsets(), [0])
        self.same((Plan([1, -1]) * Plan([1, -1])).period, 1)
        self.same((Plan([1, -1, 0, 0]) * Plan([0, 0, 1, -1])).period, 2)
        self.same((FAN * SLIDE).period, 6)

    def test_the_longest_products(self):
        for periods in ((2520, 8), (8, 2520), (5, 7, 8, 9)):
            plans = [with_period(period) for period in periods]
            self.assertEqual(moves(product(*plans)), moves_by_all(plans))
            self.same(product(*plans).period, 2520)
        self.assertEqual(Plan(LONG) * Plan(LONG).inverse(), Plan.identity())

    def test_too_long(self):
        for periods, multiple in (((2520, 11), 27720), ((47, 61), 2867), ((2519, 2), 5038), ((2520, 2519), 6347880),
                                  ((16, 315), 5040)):
            one, other = [with_period(period) for period in periods]
            self.raises(TooLong, [multiple], one.then, other)
            self.raises(TooLong, [multiple], one.then, other=other)
            self.raises(TooLong, [multiple], lambda: one * other)
            self.raises(TooLong, [multiple], product, other, one)
        plans = [with_period(period) for period in (5, 7, 8, 9, 11)]
        self.raises(TooLong, [27720], product, *plans)
        self.raises(TooLong, [27720], product, *plans[::-1])

    def test_too_long_also_where_the_product_is_short(self):
        one, other = with_period(60), with_period(49)
        self.raises(TooLong, [2940], product, one, one.inverse(), other, other.inverse())
        self.raises(TooLong, [2940], product, other, other, one, one)
        swap = Plan.swapping(2520, (0, 1))
        late = Plan.swapping(16, (0, 1))
        self.raises(TooLong, [5040], product, swap, swap, late, late)

    def test_nothing_is_changed(self):
        before = [FAN.offsets(), SLIDE.offsets()]
        FAN * SLIDE, product(FAN, SLIDE), FAN.renamed(SLIDE), FAN.inverse(), FAN.power(5)
        self.raises(TooLong, [6347880], product, FAN, with_period(2520), with_period(2519))
        self.assertEqual([FAN.offsets(), SLIDE.offsets()], before)


class Inverses(Case):

    def test_inverse(self):
        for plan in PLANS + [Plan(LONG)]:
            inverse = plan.inverse()
            self.assertIs(inverse.__class__, Plan)
            self.assertEqual(moves(inverse), [plan.back(x) for x in PLACES])
            self.assertEqual(moves(inverse, moves(plan)), PLACES)
            self.same(inverse.period, plan.period)
            self.assertEqual(inverse.inverse(), plan)
        self.same(FAN.inverse().offsets(), [-3, 4, -1])


class Powers(Case):

    def test_small_powers(self):
        for plan in PLANS:
            forth = back = PLACES
            for n in range(15):
                self.assertEqual(moves(plan.power(n)), forth)
                self.assertEqual(moves(plan.power(-n)), back)
                self.assertIs(plan.power(n=n).__class__, Plan)
                forth = moves(plan, forth)
                back = [plan.back(x) for x in back]

    def test_the_power_zero(self):
        for plan in PLANS + [Plan(LONG)]:
            self.assertEqual(plan.power(0), Plan.identity())
            self.assertEqual(plan.power(1), plan)
            self.assertEqual(plan.power(-1), plan.inverse())

    def test_powers_of_many_digits(self):
        for plan in PLANS:
            for n in (FAR, -FAR, HUGE * HUGE):
                half, odd = plan.power(n // 2), plan.power(n % 2)
                self.assertEqual(plan.power(n), half * half * odd)
                self.assertEqual(plan.power(n) * plan.power(-n), Plan.identity())
        self.same(SLIDE.power(FAR).offsets(), [2 * FAR, -2 * FAR])
        self.same(TURN.power(3 * FAR).offsets(), [0])
        self.same(TURN.power(3 * FAR + 1).offsets(), [1, 1, -2])
        self.same(TURN.power(3 * FAR - 1).offsets(), [2, -1, -1])
        self.same(FAN.power(2 * FAR).offsets(), [6 * FAR, -3 * FAR, -3 * FAR])

    def test_there_is_no_bound_for_the_period(self):
        long = Plan(LONG)
        for n in (2, -1, 7, 2520 * FAR + 1):
            half = long.power(n // 2)
            self.assertEqual(long.power(n), half * half * long.power(n % 2))

    def test_no_integers(self):
        for value in NO_INTEGERS:
            self.told_itself(InvalidInteger, value, FAN.power, value)
            self.told_itself(InvalidInteger, value, FAN.power, n=value)


class Renamed(Case):

    def test_renamed_plans(self):
        for plan, by in itertools.product(PLANS[::2], PLANS[::3]):
            made = plan.renamed(by)
            self.assertIs(made.__class__, Plan)
            self.assertEqual(made, plan.renamed(by=by))
            self.assertEqual(moves(made, moves(by)), moves(by, moves(plan)))

    def test_by_the_identity_and_by_shifts(self):
        for plan in PLANS:
            self.assertEqual(plan.renamed(Plan.identity()), plan)
            self.assertEqual(plan.renamed(plan), plan)
            self.assertEqual(plan.renamed(Plan.shift(plan.period * FAR)), plan)
            self.assertEqual(Plan.identity().renamed(plan), Plan.identity())
        self.same(SLIDE.renamed(Plan.shift(1)).offsets(), [-2, 2])
        self.same(FAN.renamed(Plan.swapping(2, (0, 1))).offsets(), [3, 1, 5, -4, -4, -1])

    def test_too_long(self):
        one, other = with_period(60), with_period(49)
        self.raises(TooLong, [2940], one.renamed, other)
        self.raises(TooLong, [2940], other.renamed, by=one)
        self.raises(TooLong, [2940], other.renamed(Plan.shift(3)).renamed, one)
        self.assertEqual(with_period(2520).renamed(with_period(2520)).period, 2520)


class Flow(Case):

    def test_the_sum_by_the_period(self):
        for offsets in TABLES + [LONG, [HUGE] * 2520]:
            self.same(Plan(offsets).flow, sum(offsets) // len(offsets))
            self.assertEqual(Plan(offsets).flow * len(offsets), sum(offsets))

    def test_some_flows(self):
        self.same([SLIDE.flow, FAN.flow, Plan([4, 1, 7, 0]).flow, Plan.identity().flow], [0, 0, 3, 0])
        self.same([Plan.shift(n).flow for n in (1, -1, HUGE, -HUGE)], [1, -1, HUGE, -HUGE])
        self.same(Plan.swapping(6, (0, FAR * 6 + 1)).flow, 0)

    def test_the_flow_of_products(self):
        for one, other in itertools.product(PLANS[::2], PLANS[1::2]):
            self.same((one * other).flow, one.flow + other.flow)
            self.same(one.renamed(other).flow, one.flow)
        for plan in PLANS:
            self.same([plan.inverse().flow, plan.power(7).flow, plan.power(-FAR).flow],
                      [-plan.flow, 7 * plan.flow, -FAR * plan.flow])


class Repeated(Case):

    def test_a_query_that_is_repeated(self):
        for _ in range(3):
            self.same([FAN.period, FAN.flow, FAN.offsets(), FAN(5), FAN.back(5), str(FAN), len(FAN)],
                      [3, 0, [3, 1, -4], 1, 4, "[3,1,-4]", 3])
            self.same([FAN.inverse(), FAN.power(2), FAN.then(SLIDE), FAN.renamed(SLIDE)],
                      [Plan([-3, 4, -1]), Plan([6, -3, -3]), FAN * SLIDE, product(SLIDE.inverse(), FAN, SLIDE)])


if __name__ == "__main__":
    unittest.main()
