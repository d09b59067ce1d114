import itertools
import unittest
from fractions import Fraction

import oracles
from threeswaps.errors import InvalidInteger, InvalidProfile, InvalidRatio, TooLong
from threeswaps.integers import common_multiple
from threeswaps.plans import Plan
from threeswaps.profiles import Profile, profile_sum
from threeswaps.ratios import is_ratio, ratio
from cases import Case
from samples import FAR, HUGE, NO_INTEGERS, NO_RATIOS, SMALL_TABLES, TABLES, Count, Pair, Sly, Thing, Wild, mixed_table

PLANS = [Plan(offsets) for offsets in TABLES + SMALL_TABLES]
PROFILES = [Profile.of(plan) for plan in PLANS]
FAN, TWIN, TURN = Profile.of(Plan([3, 1, -4])), Profile.of(Plan([4, 1, 7, 0])), Profile.of(Plan([1, 1, -2]))
# The profile that has a bit of everything.
MIXED = Profile({(-3, 2): 1, (6, 1): 1}, {1: (1, 18), 2: (1, 18)})


def hashable(values):
    """Those of the values that can be the keys of a dict."""
    found = []
    for value in values:
        try:
            hash(value)
        except TypeError:
            continue
        found.append(value)
    return found


# None of them is compared with another key, so that objects that fail if they are compared may be keys.
NO_SPEEDS = hashable(NO_RATIOS) + [(0, 1), 1, -2, "1/2", "3"]
NO_LENGTHS = hashable(NO_INTEGERS) + [0, -1, -HUGE, (1, 1), (2, 1)]
NO_COUNTS = NO_INTEGERS + [0, -1, -HUGE, (1, 1)]
NO_DENSITIES = NO_RATIOS + [(0, 1), (-1, 2), (-1, 1), 1]
NO_DICTS = [value for value in NO_INTEGERS if not isinstance(value, dict)] + [
    1, [((1, 1), 1)], (((1, 1), 1),), [(1, (1, 1))], {(1, 1)}, "{}", Plan([0]), Profile,
]


class Invalid(Case):

    def wrong(self, problem, lines, rounds):
        self.raises(InvalidProfile, [problem], Profile, lines, rounds)
        self.raises(InvalidProfile, [problem], Profile, rounds=rounds, lines=lines)
        if problem != "sum":
            self.raises(InvalidProfile, [problem], profile_sum, lines, rounds)
            self.raises(InvalidProfile, [problem], profile_sum, rounds=rounds, lines=lines)

    def test_what_is_no_dict(self):
        for value in NO_DICTS:
            self.wrong("lines", value, {1: (1, 1)})
            self.wrong("rounds", {(1, 1): 1}, value)

    def test_what_is_no_speed(self):
        for value in NO_SPEEDS:
            self.wrong("lines", {value: 1}, {})
            self.wrong("lines", {value: 1}, {1: (1, 1)})
            self.wrong("lines", {(5, 1): 5, value: 1}, {})
            self.wrong("lines", {value: 1, (5, 1): 5}, {})

    def test_what_is_no_number_of_lines(self):
        for value in NO_COUNTS:
            self.wrong("lines", {(1, 1): value}, {})
            self.wrong("lines", {(4, 1): 2, (-4, 1): value}, {})
            self.wrong("lines", {(-4, 1): value, (4, 1): 2}, {1: (1, 2)})

    def test_what_is_no_length(self):
        for value in NO_LENGTHS:
            self.wrong("rounds", {}, {value: (1, 1)})
            self.wrong("rounds", {(1, 1): 1}, {value: (1, 1)})
            self.wrong("rounds", {}, {2: (1, 2), value: (1, 2)})

    def test_what_is_no_density(self):
        for value in NO_DENSITIES:
            self.wrong("rounds", {}, {1: value})
            self.wrong("rounds", {(1, 1): 1}, {1: value})
            self.wrong("rounds", {}, {1: value, 2: (1, 2)})
            self.wrong("rounds", {}, {2: (1, 2), 3: value})

    def test_bools_are_no_numbers(self):
        self.wrong("lines", {(True, 1): 1}, {})
        self.wrong("lines", {(1, True): 1}, {})
        self.wrong("lines", {(1, 1): True}, {})
        self.wrong("rounds", {}, {True: (1, 1)})
        self.wrong("rounds", {}, {1: (True, 1)})
        self.wrong("rounds", {}, {1: (1, True)})
        self.wrong("rounds", {}, {1: True})

    def test_values_that_are_found_by_the_document(self):
        self.wrong("lines", {(0, 1): 1}, {1: (1, 1)})
        self.wrong("lines", {(2, 2): 1}, {})
        self.wrong("lines", {(1, 1): 0}, {1: (1, 1)})
        self.wrong("rounds", {(1, 1): 1}, {1: (0, 1)})
        self.wrong("rounds", {(1, 1): 1}, {1: (-1, 2)})
        self.wrong("rounds", {}, {2: (2, 4)})

    def test_the_sum(self):
        for lines, rounds in (({}, {}), ({(1, 1): 2}, {}), ({(2, 1): 1}, {}), ({}, {1: (1, 2)}), ({}, {2: (1, 1)}),
                              ({(1, 1): 1}, {1: (1, HUGE)}), ({(HUGE, 1): HUGE + 1}, {}), ({(1, 2): 1}, {}),
                              ({(-2, 1): 1}, {2: (1, 2)}), ({(3, 1): 1, (-3, 1): 1}, {1: (1, 2)}),
                              ({(1, 1): 1}, {1: (1, 1)}), ({(-3, 2): 1, (3, 2): 1}, {})):
            self.wrong("sum", lines, rounds)

    def test_which_problem_is_told(self):
        for lines in ({(0, 1): 1}, {(1, 1): 0}, [], {1: 1}):
            for rounds in ({0: (1, 1)}, {1: (0, 1)}, None, {}, {1: (1, 3)}):
                self.wrong("lines", lines, rounds)
        for lines in ({}, {(1, 1): 1}, {(1, 1): 5}):
            for rounds in ({0: (1, 1)}, {1: (0, 1)}, None, {1: (1, 1), 2: True}):
                self.wrong("rounds", lines, rounds)

    def test_the_dicts_stay(self):
        lines, rounds = {(1, 1): 2, (0, 1): 1}, {2: (1, 2)}
        self.wrong("lines", lines, rounds)
        self.assertEqual([lines, rounds], [{(1, 1): 2, (0, 1): 1}, {2: (1, 2)}])


class Sums(Case):

    def check(self, lines, rounds, expected):
        self.same(profile_sum(lines, rounds), expected)
        self.same(profile_sum(rounds=rounds, lines=lines), expected)

    def test_empty_dicts(self):
        self.check({}, {}, (0, 1))
        self.check({(3, 1): 1}, {}, (1, 3))
        self.check({}, {3: (2, 7)}, (6, 7))

    def test_against_fractions(self):
        speeds = [(1, 1), (-3, 2), (7, 3), (-4, 1), (5, 12)]
        for many in range(6):
            for first in range(6):
                lines = {speed: first + at + 1 for at, speed in enumerate(speeds[:many])}
                rounds = {at + 1: ratio(at + 2, first + 5) for at in range(first)}
                total = sum(Fraction(count * q, abs(p)) for (p, q), count in lines.items())
                total += sum(length * Fraction(*density) for length, density in rounds.items())
                self.check(lines, rounds, (total.numerator, total.denominator))

    def test_profiles(self):
        for profile in PROFILES:
            self.check(profile.lines(), profile.rounds(), (1, 1))

    def test_signs_and_many_digits(self):
        self.check({(-1, 2): 1}, {}, (2, 1))
        self.check({(HUGE, 1): HUGE, (-1, HUGE): 1}, {}, (HUGE + 1, 1))
        self.check({}, {HUGE: (1, 2 * HUGE), 1: (1, 2)}, (1, 1))
        self.check({(2, 1): 4, (-2, 1): 4}, {}, (4, 1))

    def test_the_dicts_stay(self):
        lines, rounds = {(-3, 2): 1}, {2: (1, 6)}
        self.check(lines, rounds, (1, 1))
        self.assertEqual([lines, rounds], [{(-3, 2): 1}, {2: (1, 6)}])


class OfPlans(Case):

    def test_against_the_cycles(self):
        for plan in PLANS:
            table, lines, densities = plan.offsets(), {}, {}
            for cycle, drift in oracles.cycles(table):
                speed = Fraction(len(table) * drift, len(cycle))
                if drift:
                    key = (speed.numerator, speed.denominator)
                    lines[key] = lines.get(key, 0) + abs(drift)
                else:
                    densities[len(cycle)] = densities.get(len(cycle), 0) + Fraction(1, len(table))
            profile = Profile.of(plan)
            self.assertEqual(profile.lines(), lines)
            self.assertEqual(profile.rounds(), {n: (d.numerator, d.denominator) for n, d in densities.items()})
            self.assertTrue(all(is_ratio(value) for value in [*profile.lines(), *profile.rounds().values()]))

    def test_some_profiles(self):
        self.assertEqual([FAN.lines(), FAN.rounds()], [{(3, 1): 1, (-3, 2): 1}, {}])
        self.assertEqual([TWIN.lines(), TWIN.rounds()], [{(4, 1): 3}, {1: (1, 4)}])
        self.assertEqual([TURN.lines(), TURN.rounds()], [{}, {3: (1, 3)}])
        shift = Profile.of(plan=Plan.shift(-HUGE))
        self.assertEqual([shift.lines(), shift.rounds()], [{(-HUGE, 1): HUGE}, {}])
        pairs = Profile.of(Plan([1, -1, 0, 1, -1, 1, -1, 0, 0]))
        self.assertEqual([pairs.lines(), pairs.rounds()], [{}, {2: (1, 3), 1: (1, 3)}])

    def test_the_identity(self):
        self.assertEqual(Profile.identity(), Profile.of(Plan.identity()))
        self.assertEqual([Profile.identity().lines(), Profile.identity().rounds()], [{}, {1: (1, 1)}])
        self.assertIs(Profile.identity().__class__, Profile)

    def test_a_long_plan(self):
        profile = Profile.of(Plan(mixed_table(2520, 3, 1)))
        self.assertEqual(profile, Profile(profile.lines(), profile.rounds()))

    def test_renamed_plans(self):
        for plan, by in itertools.product(PLANS[::4], PLANS[::6]):
            self.assertEqual(Profile.of(plan.renamed(by)), Profile.of(plan))


class Parts(Case):

    def test_the_dicts_that_were_passed_are_copied(self):
        lines, rounds = {(4, 1): 3}, {1: (1, 4)}
        profile = Profile(lines, rounds)
        lines[(4, 1)] = 5
        lines[(1, 1)] = 1
        rounds.clear()
        self.assertEqual([profile.lines(), profile.rounds()], [{(4, 1): 3}, {1: (1, 4)}])
        self.assertEqual([profile, profile.least_period, profile.flow, profile.lengths()], [TWIN, 4, 3, [1]])

    def test_the_dicts_that_were_told_are_new(self):
        profile = Profile({(4, 1): 3}, {1: (1, 4)})
        profile.lines().clear()
        profile.rounds()[1] = (1, 1)
        profile.speeds().append(1)
        profile.lengths().clear()
        self.assertEqual([profile.lines(), profile.rounds(), profile.speeds(), profile.lengths()],
                         [{(4, 1): 3}, {1: (1, 4)}, [(4, 1)], [1]])
        for call in (profile.lines, profile.rounds, profile.speeds, profile.lengths):
            self.assertIsNot(call(), call())
        self.assertEqual([profile.lines().__class__, profile.rounds().__class__], [dict, dict])

    def test_ascending_lists(self):
        for profile in PROFILES:
            self.same(profile.speeds(), sorted(profile.lines(), key=lambda speed: Fraction(*speed)))
            self.same(profile.lengths(), sorted(profile.rounds()))
        many = Profile({(-7, 2): 1, (7, 3): 1, (-14, 1): 1, (14, 1): 1}, {5: (1, 63), 1: (1, 63), 3: (1, 63)})
        self.same(many.speeds(), [(-14, 1), (-7, 2), (7, 3), (14, 1)])
        self.same(many.lengths(), [1, 3, 5])
        self.same([TURN.speeds(), FAN.lengths()], [[], []])

    def test_lines_of(self):
        for profile in PROFILES:
            for speed, many in profile.lines().items():
                self.same([profile.lines_of(speed), profile.lines_of(speed=speed)], [many, many])
            for speed in ((0, 1), (7, 11), (-7, 11), (1, HUGE)):
                self.same(profile.lines_of(speed), 0)
        self.same([FAN.lines_of((-3, 2)), FAN.lines_of((3, 2)), FAN.lines_of(Pair(-3, 2))], [1, 0, 1])
        for value in NO_RATIOS:
            self.told_itself(InvalidRatio, value, FAN.lines_of, value)
            self.told_itself(InvalidRatio, value, TURN.lines_of, speed=value)

    def test_density(self):
        for profile in PROFILES:
            for length, density in profile.rounds().items():
                self.same([profile.density(length), profile.density(length=length)], [density, density])
            for length in (13, 97, HUGE):
                self.same(profile.density(length), (0, 1))
        self.same([TURN.density(3), TURN.density(1), TWIN.density(Count(1))], [(1, 3), (0, 1), (1, 4)])
        for value in NO_INTEGERS + [0, -1, -HUGE, Count(0)]:
            self.told_itself(InvalidInteger, value, TURN.density, value)
            self.told_itself(InvalidInteger, value, FAN.density, length=value)

    def test_flow(self):
        for plan, profile in zip(PLANS, PROFILES):
            self.same(profile.flow, plan.flow)
        self.same([FAN.flow, TWIN.flow, TURN.flow, MIXED.flow], [0, 3, 0, 0])
        self.same(Profile({(-HUGE, 1): HUGE}, {}).flow, -HUGE)
        self.same(Profile({(-4, 1): 3, (8, 1): 2}, {}).flow, -1)

    def test_many_digits(self):
        density = ratio(HUGE - 6 * (HUGE // 9), 2 * HUGE * HUGE)
        profile = Profile({(2 * HUGE, 1): HUGE, (-HUGE, 3): HUGE // 9}, {HUGE: density})
        self.assertEqual(profile.lines_of((2 * HUGE, 1)), HUGE)
        self.same(profile.flow, HUGE - HUGE // 9)
        self.same(profile.speeds(), [(-HUGE, 3), (2 * HUGE, 1)])
        self.raises(InvalidProfile, ["sum"], Profile, {(2 * HUGE, 1): HUGE}, {HUGE: (1, 2 * HUGE + 1)})


class Equality(Case):

    def test_whatever_the_sequence_of_the_keys(self):
        lines, rounds = MIXED.lines(), MIXED.rounds()
        for one in itertools.permutations(lines):
            for other in itertools.permutations(rounds):
                profile = Profile({key: lines[key] for key in one}, {key: rounds[key] for key in other})
                self.assertIs(profile == MIXED, True)
                self.assertEqual(profile, Profile(rounds=profile.rounds(), lines=profile.lines()))
                self.assertIs(profile != MIXED, False)
                self.same([str(profile), profile.speeds(), profile.lengths()],
                          ["-3/2:1, 6:1, (1):1/18, (2):1/18", [(-3, 2), (6, 1)], [1, 2]])

    def test_profiles_that_differ(self):
        for one, other in itertools.product(PROFILES[::2], PROFILES):
            alike = one.lines() == other.lines() and one.rounds() == other.rounds()
            self.assertIs(one == other, alike)
            self.assertIs(one != other, not alike)

    def test_values_of_other_kinds(self):
        for value in NO_INTEGERS + [1, Sly(), Wild(), Thing(), Plan([0]), {}, "(1):1", ({}, {1: (1, 1)}), Profile]:
            self.assertIs(Profile.identity() == value, False)
            self.assertIs(Profile.identity() != value, True)

    def test_text(self):
        self.same([str(FAN), str(TWIN), str(TURN), str(MIXED), str(Profile.identity())],
                  ["-3/2:1, 3:1", "4:3, (1):1/4", "(3):1/3", "-3/2:1, 6:1, (1):1/18, (2):1/18", "(1):1"])
        self.same(str(Profile({(-HUGE, 1): HUGE}, {})), f"{-HUGE}:{HUGE}")
        self.same(str(Profile({}, {2: (1, 4), 10: (1, 40), 1: (1, 4)})), "(1):1/4, (2):1/4, (10):1/40")
        for profile in PROFILES:
            expected = [f"{Fraction(*speed)}:{many}" for speed, many in sorted(
                profile.lines().items(), key=lambda row: Fraction(*row[0]))]
            expected += [f"({length}):{Fraction(*density)}" for length, density in sorted(profile.rounds().items())]
            self.same(str(profile), ", ".join(expected))


class Powers(Case):

    def test_powers_of_plans(self):
        for plan, profile in zip(PLANS, PROFILES):
            for n in (*range(-13, 14), FAR, -FAR, 2520 * HUGE, -2520 * HUGE):
                self.assertEqual(profile.power(n), Profile.of(plan.power(n)))
            self.assertEqual(profile.opposite(), Profile.of(plan.inverse()))
            self.assertEqual(profile.power(n=3), profile.power(3))
            self.assertIs(profile.power(2).__class__, Profile)

    def test_the_power_zero(self):
        for profile in PROFILES:
            self.assertEqual(profile.power(0), Profile.identity())
            self.assertEqual(profile.power(1), profile)
            self.assertEqual(profile.power(-1), profile.opposite())
            self.assertEqual(profile.opposite().opposite(), profile)

    def test_lengths_that_come_together(self):
        rounds = Profile({}, {1: (1, 12), 2: (1, 12), 3: (1, 12), 6: (1, 12)})
        self.assertEqual(rounds.power(2).rounds(), {1: (1, 4), 3: (1, 4)})
        self.assertEqual(rounds.power(3).rounds(), {1: (1, 3), 2: (1, 3)})
        self.assertEqual(rounds.power(-4), rounds.power(2))
        self.assertEqual(rounds.power(5), rounds)
        self.assertEqual(rounds.power(6 * FAR), Profile.identity())

    def test_speeds(self):
        self.assertEqual(FAN.power(2).lines(), {(6, 1): 2, (-3, 1): 2})
        self.assertEqual(FAN.power(-2).lines(), {(-6, 1): 2, (3, 1): 2})
        self.assertEqual(FAN.power(-FAR).lines(), {(-3 * FAR, 1): FAR, (3 * FAR, 2): FAR})
        self.same([str(FAN.power(-2)), str(TURN.power(6)), str(FAN.opposite())], ["-6:2, 3:2", "(1):1", "-3:1, 3/2:1"])

    def test_no_integers(self):
        for value in NO_INTEGERS:
            self.told_itself(InvalidInteger, value, FAN.power, value)
            self.told_itself(InvalidInteger, value, TURN.power, n=value)


class LeastPeriods(Case):

    def test_the_plan_with_the_least_period(self):
        for profile in PROFILES + [MIXED, TWIN.power(6), FAN.power(-5), FAN.power(HUGE)]:
            plan = profile.plan()
            self.assertIs(plan.__class__, Plan)
            self.assertEqual(Profile.of(plan), profile)
            self.same(plan.period, profile.least_period)

    def test_each_period_is_a_multiple_of_it(self):
        for plan, profile in zip(PLANS, PROFILES):
            for by in [Plan.identity(), *PLANS[::9]]:
                self.same(plan.renamed(by).period % profile.least_period, 0)

    def test_no_lesser_period(self):
        # All plans with lesser periods whose offsets are small have other profiles.
        texts = {}
        for table in SMALL_TABLES:
            texts.setdefault(str(Profile.of(Plan(table))), []).append(Plan(table).period)
        for profile in PROFILES:
            self.assertGreaterEqual(min(texts.get(str(profile), [HUGE])), profile.least_period)

    def test_some_least_periods(self):
        for lines, rounds, least in (
                ({(6, 1): 4}, {1: (1, 3)}, 3), ({(6, 1): 1}, {1: (5, 6)}, 6), ({(6, 1): 6}, {}, 1), ({(-4, 1): 2, (4, 1): 2}, {}, 2),
                ({(-3, 2): 1, (3, 1): 1}, {}, 3), ({}, {1: (1, 2), 2: (1, 4)}, 4), ({}, {1: (1, 2), 3: (1, 6)}, 6),
                ({}, {4: (1, 4)}, 4), ({(10, 1): 4}, {1: (1, 4), 2: (7, 40)}, 40), ({(-5, 2): 2}, {1: (1, 5)}, 5),
                ({(HUGE, 1): HUGE}, {}, 1), ({(2 * HUGE, 1): HUGE, (-2 * HUGE, 1): HUGE}, {}, 2)):
            profile = Profile(lines, rounds)
            self.same(profile.least_period, least)
            self.same(profile.plan().period, least)
            self.assertEqual(Profile.of(profile.plan()), profile)

    def test_the_formula(self):
        for profile in PROFILES:
            numbers = [Fraction(abs(p), many).numerator for (p, _), many in profile.lines().items()]
            numbers += [density[1] for density in profile.rounds().values()]
            self.same(profile.least_period, common_multiple(*numbers))

    def test_too_long(self):
        for period in (2521, 5040, HUGE):
            profile = Profile({(period, 1): 1}, {1: (period - 1, period)})
            self.same(profile.least_period, period)
            self.raises(TooLong, [period], profile.plan)
            profile = Profile({(-period, 1): period - 1}, {1: (1, period)})
            self.raises(TooLong, [period], profile.plan)
        profile = Profile({}, {1: (46, 47), 61: (1, 47 * 61)})
        self.raises(TooLong, [2867], profile.plan)

    def test_the_longest(self):
        for profile in (Profile({(2520, 1): 1}, {1: (2519, 2520)}), Profile({}, {2520: (1, 2520)}),
                        Profile({(-2520, 1): 1259, (2520, 1): 1261}, {})):
            plan = profile.plan()
            self.same([plan.period, profile.least_period], [2520, 2520])
            self.assertEqual(Profile.of(plan), profile)


class Differences(Case):

    def expected(self, one, other):
        """The difference of two profiles, as a search through all keys tells."""
        for speed in sorted({*one.lines(), *other.lines()}, key=lambda speed: Fraction(*speed)):
            if one.lines().get(speed, 0) != other.lines().get(speed, 0):
                return ("speed", speed, one.lines().get(speed, 0), other.lines().get(speed, 0))
        for length in sorted({*one.rounds(), *other.rounds()}):
            if one.rounds().get(length, (0, 1)) != other.rounds().get(length, (0, 1)):
                return ("length", length, one.rounds().get(length, (0, 1)), other.rounds().get(length, (0, 1)))
        return None

    def test_against_a_search(self):
        for one, other in itertools.product(PROFILES[::2], PROFILES):
            found = one.first_difference(other)
            self.assertEqual(found, self.expected(one, other))
            self.assertEqual(found is None, one == other)

    def test_turned_about(self):
        for one, other in itertools.product(PROFILES[::3], PROFILES[::2]):
            found = one.first_difference(other)
            if found is not None:
                kind, key, here, there = found
                self.assertEqual(other.first_difference(one), (kind, key, there, here))

    def test_some_differences(self):
        self.same(FAN.first_difference(FAN.opposite()), ("speed", (-3, 1), 0, 1))
        self.same(FAN.first_difference(other=FAN.power(2)), ("speed", (-3, 1), 0, 2))
        self.same(FAN.first_difference(TURN), ("speed", (-3, 2), 1, 0))
        self.same(TURN.first_difference(Profile.identity()), ("length", 1, (0, 1), (1, 1)))
        self.same(Profile.identity().first_difference(TURN), ("length", 1, (1, 1), (0, 1)))
        self.same(Profile({(4, 1): 1}, {1: (3, 4)}).first_difference(Profile({(4, 1): 1}, {1: (1, 4), 2: (1, 4)})),
                  ("length", 1, (3, 4), (1, 4)))
        self.same(Profile({(4, 1): 1}, {3: (1, 4)}).first_difference(Profile({(4, 1): 2}, {3: (1, 6)})),
                  ("speed", (4, 1), 1, 2))
        self.same(Profile({}, {1: (1, 3), 2: (1, 6), 3: (1, 9)}).first_difference(Profile({}, {1: (1, 3), 2: (1, 3)})),
                  ("length", 2, (1, 6), (1, 3)))
        self.assertIsNone(MIXED.first_difference(Profile(MIXED.lines(), MIXED.rounds())))


class Objects(Case):

    def test_queries_change_nothing(self):
        for profile in (FAN, TWIN, TURN, MIXED):
            before = [profile.lines(), profile.rounds(), str(profile)]
            for _ in range(2):
                profile.power(5), profile.opposite(), profile.plan(), profile.first_difference(FAN), profile.flow
                profile.lines_of((9, 1)), profile.density(9), profile.least_period, profile == FAN
                self.assertEqual([profile.lines(), profile.rounds(), str(profile)], before)


if __name__ == "__main__":
    unittest.main()
