import itertools
import math
import unittest

from threeswaps.errors import InvalidInteger, InvalidTable, TooLong
from threeswaps.mirrors import Mirror, mirrored, move_power, moves_product
from threeswaps.plans import Move, Plan, product
from threeswaps.profiles import Profile
from cases import Case
from samples import (
    FAR, HUGE, NO_INTEGERS, NO_LISTS, PLACES, SMALL_TABLES, TABLES, VAST, Count, mirror_table, mixed_table,
)

PLANS = [Plan(offsets) for offsets in TABLES]
MIRROR_TABLES = [mirror_table(offsets) for offsets in TABLES + SMALL_TABLES]
MIRRORS = [Mirror(offsets) for offsets in MIRROR_TABLES]
PAIR, AROUND = Mirror([1, 3]), Mirror([0])
LONG = mirror_table(mixed_table(2520, 3, 1))
STILL = Plan.identity()


def with_period(period, sign=1):
    """A plan or a mirror that has just this period, from 3 on."""
    offsets = [1, -1] + [0] * (period - 2)
    return Plan(offsets) if sign == 1 else Mirror(mirror_table(offsets, around=0))


def moves(move, places=PLACES):
    """Where a move moves the places."""
    return [move.at(x) for x in places]


def moves_by_all(done, places=PLACES):
    """Where the moves, one after another, move the places."""
    for move in done:
        places = moves(move, places)
    return places


class WrongTables(Case):

    def wrong(self, told, offsets):
        self.raises(InvalidTable, told, Mirror, offsets)
        self.raises(InvalidTable, told, Mirror, offsets=offsets)

    def test_what_is_no_list(self):
        for value in NO_LISTS + [Plan([0]), Mirror([0]), Mirror]:
            self.wrong(("table", None, None), value)

    def test_what_is_no_integer(self):
        for value in NO_INTEGERS:
            self.wrong(("integer", 0, None), [value])
            self.wrong(("integer", 0, None), (value,))
            for at in range(6):
                offsets = [0] * 6
                offsets[at] = value
                self.wrong(("integer", at, None), offsets)
                self.wrong(("integer", at, None), tuple(offsets))

    def test_bools_are_no_offsets(self):
        self.wrong(("integer", 0, None), [True, 1])
        self.wrong(("integer", 1, None), [0, False])
        self.wrong(("integer", 1, None), [0, True, False, "x"])

    def test_meetings(self):
        self.wrong(("meeting", 1, 0), [0, 1])
        self.wrong(("meeting", 1, 0), (1, 2))
        self.wrong(("meeting", 2, 1), [1, 3, 1])
        self.wrong(("meeting", 3, 0), [0, 0, 0, 3])
        self.wrong(("meeting", 1, 0), [HUGE * 2, HUGE * 2 + 1])

    def test_meetings_against_a_search(self):
        for period in (1, 2, 3, 4):
            for offsets in itertools.product(range(-2, 3), repeat=period):
                ends = [(offset - at) % period for at, offset in enumerate(offsets)]
                met = [at for at in range(period) if ends[at] in ends[:at]]
                if met:
                    self.wrong(("meeting", met[0], ends.index(ends[met[0]])), list(offsets))
                else:
                    self.assertEqual(moves(Mirror(offsets)), [-x + offsets[x % period] for x in PLACES])

    def test_tables_of_plans_may_be_none_of_mirrors(self):
        self.wrong(("meeting", 1, 0), [1, 2, 0])
        self.assertEqual(moves(Mirror([1, -1])), [-x + (1, -1)[x % 2] for x in PLACES])
        self.raises(InvalidTable, ("meeting", 1, 0), Plan, [2, 1, 0])
        self.assertEqual(Mirror([2, 1, 0]).period, 3)

    def test_the_number_of_items(self):
        for many in (2521, 2522, 5040):
            self.raises(TooLong, [many], Mirror, [0] * many)
            self.raises(TooLong, [many], Mirror, (0,) * many)
        self.assertEqual(Mirror([0] * 2520), Mirror([0]))

    def test_which_error_is_due(self):
        self.raises(TooLong, [2521], Mirror, ["x", True] + [0, 1] * 1259 + [0])
        self.wrong(("integer", 2, None), [0, 1, "x"])
        self.wrong(("integer", 2519, None), [0, 1] + [0] * 2517 + [None])
        self.wrong(("meeting", 1, 0), [0, 1] + [0] * 2518)
        self.wrong(("table", None, None), "x" * 2521)


class Mirrors(Case):

    def test_at_and_call_and_back(self):
        for offsets in MIRROR_TABLES:
            mirror = Mirror(offsets)
            for x in PLACES:
                there = -x + offsets[x % len(offsets)]
                self.same([mirror.at(x), mirror(x), mirror.at(x=x), mirror(x=x)], [there] * 4)
                self.same([mirror.back(there), mirror.back(x=there)], [x, x])
                self.same(mirror.at(mirror.back(x)), x)

    def test_lists_and_tuples(self):
        for offsets in MIRROR_TABLES:
            mirror = Mirror(offsets)
            self.assertEqual(mirror, Mirror(tuple(offsets)))
            self.assertEqual(mirror, Mirror(offsets=offsets))

    def test_a_shifted_place(self):
        for mirror in MIRRORS:
            for x in PLACES[:9]:
                self.same(mirror.at(x + mirror.period * FAR), mirror.at(x) - mirror.period * FAR)
                self.same(mirror.back(x - mirror.period * FAR), mirror.back(x) + mirror.period * FAR)

    def test_exactly_one_thing_comes_to_each_place(self):
        for mirror in MIRRORS:
            if max(mirror.offsets()) < 100 and min(mirror.offsets()) > -100:
                ends = sorted(moves(mirror, range(-300, 300)))
                self.assertEqual([x for x in ends if -150 <= x < 150], list(range(-150, 150)))

    def test_the_least_period(self):
        for offsets in MIRROR_TABLES:
            many = len(offsets)
            fits = [n for n in range(1, many + 1)
                    if all(offsets[at % many] == offsets[(at + n) % many] for at in range(many))]
            mirror = Mirror(offsets * 2)
            self.same([mirror.period, len(mirror)], [fits[0]] * 2)
            self.same(mirror.offsets(), offsets[:fits[0]])
        self.same(Mirror(LONG).offsets(), LONG)
        self.same(Mirror([1, 3] * 1260).offsets(), [1, 3])

    def test_no_integers(self):
        for value in NO_INTEGERS:
            for call in (PAIR.at, PAIR, PAIR.back, AROUND.at, AROUND, AROUND.back):
                self.told_itself(InvalidInteger, value, call, value)
                self.told_itself(InvalidInteger, value, call, x=value)
        self.assertEqual([PAIR.at(Count(4)), PAIR.at(VAST - 1)], [-3, 2 - VAST])

    def test_equality(self):
        for one, other in itertools.product(MIRRORS[::2], MIRRORS):
            alike = moves(one, range(-60, 60)) == moves(other, range(-60, 60))
            self.assertIs(one == other, alike)
            self.assertIs(one != other, not alike)

    def test_a_mirror_is_equal_to_no_other_value(self):
        for value in NO_INTEGERS + [0, 2, [1, 3], (1, 3), "-[1,3]", "Mirror([1, 3])", HUGE, Move, Plan, Mirror]:
            self.assertIs(PAIR == value, False)
            self.assertIs(PAIR != value, True)
        for table in ([0], [1, -1], [3, -3], [0, 2, 0, 2], [HUGE]):
            mirror, plan = Mirror(table), Plan(table)
            self.same([mirror == plan, plan == mirror, mirror != plan, plan != mirror], [False, False, True, True])
        for mirror in MIRRORS:
            self.assertFalse(any(mirror == plan or plan == mirror for plan in PLANS))

    def test_text(self):
        for value, text in ((Mirror([2, -2]), "-[2,-2]"), (AROUND, "-[0]"), (Mirror((1, 3, 1, 3)), "-[1,3]"),
                            (Mirror([HUGE]), f"-[{HUGE}]"), (Mirror([-HUGE]), f"-[{-HUGE}]")):
            self.same(str(value), text)
        for value, text in ((PAIR, "Mirror([1, 3])"), (Mirror((0, 0)), "Mirror([0])"),
                            (Mirror([-HUGE]), f"Mirror([{-HUGE}])")):
            self.same(repr(value), text)

    def test_inverse(self):
        for mirror in MIRRORS + [Mirror(LONG)]:
            inverse = mirror.inverse()
            self.assertIs(inverse.__class__, Mirror)
            self.assertEqual(moves(inverse), [mirror.back(x) for x in PLACES])
            self.assertEqual(moves(inverse, moves(mirror)), PLACES)
            self.same(inverse.period, mirror.period)
            self.assertEqual(inverse.inverse(), mirror)

    def test_around(self):
        for n in (0, 1, -1, 7, HUGE, -HUGE, -VAST):
            self.assertEqual(Mirror.around(n), Mirror([n]))
            self.assertIs(Mirror.around(n).__class__, Mirror)
            self.assertEqual(moves(Mirror.around(n=n)), [n - x for x in PLACES])
            self.assertEqual(Mirror.around(n).inverse(), Mirror.around(n))
        for value in NO_INTEGERS:
            self.told_itself(InvalidInteger, value, Mirror.around, value)
            self.told_itself(InvalidInteger, value, Mirror.around, n=value)

    def test_moves(self):
        self.assertTrue(issubclass(Mirror, Move))
        self.assertFalse(issubclass(Mirror, Plan) or issubclass(Plan, Mirror))
        self.same([Mirror.MAX_PERIOD, Mirror.SIGN, Plan.SIGN, PAIR.MAX_PERIOD, PAIR.SIGN], [2520, -1, 1, 2520, -1])

    def test_the_list_that_was_passed_is_copied(self):
        offsets = [1, 3]
        mirror = Mirror(offsets)
        self.assertEqual(offsets, [1, 3])
        offsets[0] = 7
        offsets.append(0)
        self.same([mirror.offsets(), mirror.at(0), mirror.back(1), mirror.period], [[1, 3], 1, 0, 2])

    def test_the_list_that_was_told_is_new(self):
        mirror = Mirror([1, 3])
        mirror.offsets().clear()
        mirror.inverse().offsets().clear()
        self.same([mirror.offsets(), mirror.at(0), mirror.back(1), str(mirror)], [[1, 3], 1, 0, "-[1,3]"])
        self.assertIsNot(mirror.offsets(), mirror.offsets())


class Products(Case):

    def check(self, *done):
        made = moves_product(*done)
        self.assertEqual(moves(made), moves_by_all(done))
        kind = Mirror if sum(move.SIGN == -1 for move in done) % 2 else Plan
        self.assertIs(made.__class__, kind)

    def test_no_moves_and_one(self):
        self.assertEqual(moves_product(), STILL)
        for move in PLANS + MIRRORS:
            self.assertEqual(moves_product(move), move)
            self.assertIs(moves_product(move).__class__, move.__class__)

    def test_two_moves(self):
        for one, other in itertools.product(PLANS[::7] + MIRRORS[::9], repeat=2):
            self.check(one, other)
            self.check(other, one)

    def test_many_moves(self):
        for many, first in itertools.product((3, 4, 5, 6), range(0, 40, 3)):
            done = [(PLANS, MIRRORS)[(first + at * at) % 2][(first + 11 * at) % 60] for at in range(many)]
            if math.lcm(*[move.period for move in done]) <= 2520:
                self.check(*done)
        self.check(*[Mirror.around(HUGE), Mirror.around(0)] * 100)
        self.check(*[PAIR] * 7)

    def test_the_first_move_is_done_first(self):
        self.same(moves_product(AROUND, Mirror.around(1)), Plan([1]))
        self.same(moves_product(Mirror.around(1), AROUND), Plan([-1]))
        self.same(moves_product(Plan.shift(2), AROUND), Mirror([-2]))
        self.same(moves_product(AROUND, Plan.shift(2)), Mirror([2]))

    def test_plans_alone(self):
        for one, other in itertools.product(PLANS[::3], PLANS[1::4]):
            self.assertEqual(moves_product(one, other), product(one, other))

    def test_a_move_and_its_inverse(self):
        for move in PLANS + MIRRORS + [Mirror(LONG)]:
            self.assertEqual(moves_product(move, move.inverse()), STILL)

    def test_too_long(self):
        for signs in itertools.product((1, -1), repeat=2):
            for periods, multiple in (((2520, 11), 27720), ((47, 61), 2867), ((2519, 4), 10076), ((16, 315), 5040)):
                one, other = [with_period(period, sign) for period, sign in zip(periods, signs)]
                self.assertEqual([one.period, other.period], list(periods))
                self.raises(TooLong, [multiple], moves_product, one, other)
                self.raises(TooLong, [multiple], moves_product, other, one, other)
        many = [with_period(period, sign) for period, sign in zip((5, 7, 8, 9, 11), (1, -1, -1, 1, -1))]
        self.raises(TooLong, [27720], moves_product, *many)
        self.check(*many[:4])
        self.same(moves_product(with_period(2520, -1), with_period(8)).SIGN, -1)

    def test_too_long_also_where_the_product_is_short(self):
        one, other = with_period(60, -1), with_period(49, -1)
        self.raises(TooLong, [2940], moves_product, one, one.inverse(), other, other.inverse())
        self.raises(TooLong, [2940], moves_product, with_period(60), one, other, other)

    def test_the_moves_stay(self):
        one, other = Mirror([1, 3]), Plan([3, 1, -4])
        moves_product(one, other), move_power(one, 5), move_power(other, -3), mirrored(other), one.inverse()
        self.same([one.offsets(), other.offsets()], [[1, 3], [3, 1, -4]])


class Powers(Case):

    def test_powers_of_plans(self):
        for plan, n in itertools.product(PLANS, (0, 1, -1, 2, 5, -6, FAR, -FAR)):
            self.assertEqual(move_power(plan, n), plan.power(n))
            self.assertEqual(move_power(n=n, move=plan), plan.power(n))

    def test_small_powers_of_mirrors(self):
        for mirror in MIRRORS + [Mirror(LONG)]:
            forth = back = PLACES
            for n in range(9):
                for power, ends in ((move_power(mirror, n), forth), (move_power(n=-n, move=mirror), back)):
                    self.assertEqual(moves(power), ends)
                    self.assertIs(power.__class__, Mirror if n % 2 else Plan)
                forth = moves(mirror, forth)
                back = [mirror.back(x) for x in back]

    def test_the_powers_around_zero(self):
        for mirror in MIRRORS:
            self.assertEqual(move_power(mirror, 0), STILL)
            self.assertEqual(move_power(mirror, 1), mirror)
            self.assertEqual(move_power(mirror, -1), mirror.inverse())
            self.assertEqual(move_power(mirror, 2), moves_product(mirror, mirror))

    def test_great_powers_of_mirrors(self):
        for mirror in MIRRORS[::2]:
            for n in (FAR, -FAR, FAR + 1, HUGE * HUGE, -2 * HUGE):
                half, odd = move_power(mirror, n // 2), move_power(mirror, n % 2)
                self.assertEqual(move_power(mirror, n), moves_product(half, half, odd))
        self.same(move_power(PAIR, 2 * FAR), Plan([2 * FAR, -2 * FAR]))
        self.same(move_power(AROUND, FAR), AROUND if FAR % 2 else STILL)
        self.same(move_power(PAIR, 2), Plan([2, -2]))

    def test_no_integers(self):
        for value in NO_INTEGERS:
            for move in (PAIR, Plan([3, 1, -4])):
                self.told_itself(InvalidInteger, value, move_power, move, value)
                self.told_itself(InvalidInteger, value, move_power, n=value, move=move)


class MirroredPlans(Case):

    def test_places(self):
        for plan in PLANS:
            found = mirrored(plan)
            self.assertIs(found.__class__, Plan)
            self.assertEqual(moves(found), [-plan.at(-x) for x in PLACES])
            self.assertEqual(mirrored(plan=plan), found)
            self.same([found.period, found.flow], [plan.period, -plan.flow])

    def test_twice(self):
        for plan in PLANS:
            self.assertEqual(mirrored(mirrored(plan)), plan)

    def test_products_and_inverses(self):
        for one, other in itertools.product(PLANS[::3], PLANS[::4]):
            self.assertEqual(mirrored(one * other), mirrored(one) * mirrored(other))
        for plan in PLANS:
            self.assertEqual(mirrored(plan.inverse()), mirrored(plan).inverse())
            self.assertEqual(mirrored(plan), moves_product(AROUND, plan, AROUND))
            self.assertEqual(Profile.of(mirrored(plan)), Profile.of(plan).opposite())

    def test_some_plans(self):
        self.same([mirrored(Plan([4, 1, 7, 0])), mirrored(STILL), mirrored(Plan.shift(HUGE))],
                  [Plan([-4, 0, -7, -1]), STILL, Plan.shift(-HUGE)])
        long = Plan(mixed_table(2520, 2, 4))
        self.assertEqual(moves(mirrored(long)), [-long.at(-x) for x in PLACES])


if __name__ == "__main__":
    unittest.main()
