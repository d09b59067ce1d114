import unittest
from fractions import Fraction
from itertools import permutations, product

from threeswaps.errors import InvalidInteger, InvalidRatio, ThreeswapsError
from threeswaps.ratios import compare_ratios, is_ratio, ratio, ratio_product, ratio_sum, sorted_ratios
from samples import HUGE, NO_INTEGERS, NO_RATIOS, RATIOS, VAST, Count, Pair, Sly, Thing

SMALL = sorted({(value.numerator, value.denominator)
                for value in [Fraction(p, q) for p in range(-7, 8) for q in range(1, 7)]})
LONG = [(HUGE, 3), (-HUGE, 7), (1, HUGE), (HUGE, HUGE + 1), (-HUGE - 1, HUGE), (5, 10 ** 25), (10 ** 25, 3)]


def pair(value):
    """The RATIO of a Fraction."""
    return (value.numerator, value.denominator)


class RatioTest(unittest.TestCase):

    def same(self, found, expected):
        """Check a value that must be a RATIO, and this one."""
        self.assertEqual(found, expected)
        self.assertIs(found.__class__, tuple)
        self.assertIs(is_ratio(found), True)

    def wrong(self, error, value, function, *values, **named):
        """Check that a call raises the error with the very value."""
        with self.assertRaises(error) as found:
            function(*values, **named)
        self.assertIs(found.exception.__class__, error)
        self.assertIs(found.exception.value, value)
        self.assertIsInstance(found.exception, ThreeswapsError)


class IsRatio(unittest.TestCase):

    def test_ratios(self):
        for value in RATIOS + SMALL + LONG[:1]:
            self.assertIs(is_ratio(value), True)

    def test_other_values(self):
        for value in NO_RATIOS:
            self.assertIs(is_ratio(value), False)

    def test_the_edges_that_the_document_names(self):
        for value in ((0, 1), (0, 2), (0, -1), (1, 1), (1, 0), (1, -1), (2, 2), (-2, 2), (-1, 2)):
            self.assertIs(is_ratio(value), value in ((0, 1), (1, 1), (-1, 2)))

    def test_bools_inside(self):
        self.assertEqual([is_ratio(value) for value in ((1, 1), (True, 1), (1, True), (0, 1), (False, 1))],
                         [True, False, False, True, False])

    def test_lowest_terms(self):
        for p, q in product(range(-9, 10), range(-9, 10)):
            lowest = q > 0 and (Fraction(p, q).numerator, Fraction(p, q).denominator) == (p, q)
            self.assertIs(is_ratio((p, q)), lowest)

    def test_by_name(self):
        self.assertIs(is_ratio(value=(1, 2)), True)
        self.assertIs(is_ratio(value=[1, 2]), False)


class Ratio(RatioTest):

    def test_of_all_signs(self):
        self.same(ratio(6, 4), (3, 2))
        self.same(ratio(-6, 4), (-3, 2))
        self.same(ratio(6, -4), (-3, 2))
        self.same(ratio(-6, -4), (3, 2))

    def test_against_fractions(self):
        for p, q in product(range(-12, 13), range(-12, 13)):
            if q:
                self.same(ratio(p, q), pair(Fraction(p, q)))

    def test_zero_as_numerator(self):
        for denominator in (1, -1, 2, -2, 7, HUGE, -HUGE):
            self.same(ratio(0, denominator), (0, 1))
        self.same(ratio(0), (0, 1))

    def test_the_default_denominator(self):
        for numerator in (0, 1, -1, 6, HUGE, -HUGE, VAST, Count(4)):
            self.same(ratio(numerator), (numerator, 1))

    def test_many_digits(self):
        self.same(ratio(HUGE * 6, HUGE * -4), (-3, 2))
        self.same(ratio(10 ** 25, 10 ** 25 + 1), (10 ** 25, 10 ** 25 + 1))
        self.same(ratio(VAST, 7 ** 3999), (7, 1))
        self.same(ratio(-VAST, -VAST - 1), (VAST, VAST + 1))

    def test_by_name(self):
        self.same(ratio(numerator=6, denominator=-4), (-3, 2))
        self.same(ratio(denominator=-4, numerator=6), (-3, 2))
        self.same(ratio(6, denominator=-4), (-3, 2))
        self.same(ratio(numerator=6), (6, 1))

    def test_no_integer(self):
        for value in NO_INTEGERS:
            self.wrong(InvalidInteger, value, ratio, value)
            self.wrong(InvalidInteger, value, ratio, value, 2)
            self.wrong(InvalidInteger, value, ratio, value, 0)
            self.wrong(InvalidInteger, value, ratio, 2, value)
            self.wrong(InvalidInteger, value, ratio, 0, value)
            self.wrong(InvalidInteger, value, ratio, numerator=2, denominator=value)

    def test_the_first_of_two_that_are_no_integers(self):
        for first, second in (("p", "q"), (True, None), (None, True), ([], ()), ((1, 2), (1, 3))):
            self.wrong(InvalidInteger, first, ratio, first, second)
            self.wrong(InvalidInteger, first, ratio, denominator=second, numerator=first)

    def test_a_denominator_of_zero(self):
        for numerator in (0, 1, -1, 6, HUGE, -HUGE):
            with self.assertRaises(InvalidRatio) as found:
                ratio(numerator, 0)
            self.assertEqual(found.exception.value, (numerator, 0))
            self.assertIs(found.exception.value.__class__, tuple)
            self.assertIs(found.exception.value[0], numerator)
        with self.assertRaises(InvalidRatio) as found:
            ratio(denominator=0, numerator=4)
        self.assertEqual(found.exception.value, (4, 0))

    def test_false_is_no_zero(self):
        self.wrong(InvalidInteger, False, ratio, 1, False)


class Sums(RatioTest):

    def test_without_arguments(self):
        self.same(ratio_sum(), (0, 1))

    def test_one(self):
        for value in SMALL + LONG[3:5] + [Pair(2, 3), (VAST, VAST + 1)]:
            self.same(ratio_sum(value), tuple(value))

    def test_in_lowest_terms(self):
        self.same(ratio_sum((1, 2), (1, 3), (1, 6)), (1, 1))
        self.same(ratio_sum((1, 6), (1, 10)), (4, 15))
        self.same(ratio_sum((1, 2), (1, 2)), (1, 1))
        self.same(ratio_sum((1, 4), (1, 4)), (1, 2))
        self.same(ratio_sum((1, 2), (-1, 2)), (0, 1))
        self.same(ratio_sum((0, 1), (0, 1)), (0, 1))
        self.same(ratio_sum((-1, 3), (-1, 6)), (-1, 2))
        self.same(ratio_sum((5, 1), (-3, 1), (2, 1)), (4, 1))

    def test_against_fractions(self):
        for left, right in product(SMALL, SMALL):
            self.same(ratio_sum(left, right), pair(Fraction(*left) + Fraction(*right)))
        for three in product(SMALL[::7], repeat=3):
            self.same(ratio_sum(*three), pair(sum(Fraction(*value) for value in three)))

    def test_many_digits(self):
        values = [ratio(*value) for value in LONG]
        self.same(ratio_sum(*values), pair(sum(Fraction(*value) for value in values)))
        self.same(ratio_sum((1, HUGE), (HUGE - 1, HUGE)), (1, 1))

    def test_many(self):
        self.same(ratio_sum(*[(1, 300)] * 300), (1, 1))
        self.same(ratio_sum(*[(1, n) for n in range(1, 200)]), pair(sum(Fraction(1, n) for n in range(1, 200))))


class Products(RatioTest):

    def test_without_arguments(self):
        self.same(ratio_product(), (1, 1))

    def test_one(self):
        for value in SMALL + [Pair(2, 3), (VAST, VAST + 1)]:
            self.same(ratio_product(value), tuple(value))

    def test_in_lowest_terms(self):
        self.same(ratio_product((2, 3), (3, 2)), (1, 1))
        self.same(ratio_product((2, 3), (3, 4)), (1, 2))
        self.same(ratio_product((-2, 3), (3, 4)), (-1, 2))
        self.same(ratio_product((-1, 2), (-2, 1)), (1, 1))
        self.same(ratio_product((5, 7), (0, 1)), (0, 1))
        self.same(ratio_product((0, 1), (0, 1)), (0, 1))
        self.same(ratio_product((6, 1), (1, 4), (2, 9)), (1, 3))

    def test_against_fractions(self):
        for left, right in product(SMALL, SMALL):
            self.same(ratio_product(left, right), pair(Fraction(*left) * Fraction(*right)))
        for one, two, three in product(SMALL[::7], repeat=3):
            self.same(ratio_product(one, two, three), pair(Fraction(*one) * Fraction(*two) * Fraction(*three)))

    def test_many_digits(self):
        self.same(ratio_product((HUGE, HUGE + 1), (HUGE + 1, HUGE)), (1, 1))
        self.same(ratio_product((-HUGE, 3), (1, HUGE)), (-1, 3))
        self.same(ratio_product((VAST, 5), (5, 7)), (7 ** 3999, 1))


class Comparing(RatioTest):

    def check(self, left, right, expected):
        found = compare_ratios(left, right)
        self.assertEqual(found, expected)
        self.assertIs(found.__class__, int)

    def test_ordinary(self):
        self.check((1, 2), (1, 3), 1)
        self.check((1, 3), (1, 2), -1)
        self.check((-1, 2), (-1, 3), -1)
        self.check((-1, 3), (-1, 2), 1)
        self.check((-1, 2), (1, 2), -1)
        self.check((0, 1), (-5, 1), 1)
        self.check((1, 5), (5, 1), -1)
        self.check((3, 2), (4, 3), 1)

    def test_equal(self):
        for value in RATIOS + SMALL:
            self.check(value, tuple(value), 0)
        self.check(Pair(2, 3), (2, 3), 0)

    def test_against_fractions(self):
        for left, right in product(SMALL, SMALL):
            one, two = Fraction(*left), Fraction(*right)
            self.check(left, right, (one > two) - (one < two))

    def test_many_digits(self):
        self.check((HUGE, HUGE + 1), (HUGE + 1, HUGE + 2), -1)
        self.check((HUGE + 1, HUGE + 2), (HUGE, HUGE + 1), 1)
        self.check((-HUGE, HUGE + 1), (-HUGE - 1, HUGE + 2), 1)
        self.check((1, HUGE), (1, HUGE + 1), 1)
        self.check((VAST, 1), (VAST + 1, 1), -1)

    def test_by_name(self):
        self.assertEqual(compare_ratios(left=(1, 2), right=(1, 3)), 1)
        self.assertEqual(compare_ratios(right=(1, 2), left=(1, 3)), -1)
        self.assertEqual(compare_ratios((1, 2), right=(1, 2)), 0)

    def test_wrong_by_name(self):
        self.wrong(InvalidRatio, "l", compare_ratios, right="r", left="l")
        self.wrong(InvalidRatio, "r", compare_ratios, right="r", left=(1, 2))


class Sorting(RatioTest):

    def check(self, values, expected):
        for given in (list(values), tuple(values)):
            found = sorted_ratios(given)
            self.assertIs(found.__class__, list)
            self.assertEqual(found, expected)
            self.assertTrue(all(is_ratio(value) for value in found))

    def test_none_and_one(self):
        self.check([], [])
        self.check([(1, 2)], [(1, 2)])
        self.check([(0, 1)], [(0, 1)])

    def test_ordinary(self):
        self.check([(1, 2), (-3, 2), (1, 3)], [(-3, 2), (1, 3), (1, 2)])
        self.check([(3, 1), (2, 1), (1, 1), (0, 1), (-1, 1)], [(-1, 1), (0, 1), (1, 1), (2, 1), (3, 1)])
        self.check([(-1, 3), (-1, 2)], [(-1, 2), (-1, 3)])

    def test_values_decide_and_not_the_terms(self):
        self.check([(1, 2), (2, 5), (3, 8), (10, 21)], [(3, 8), (2, 5), (10, 21), (1, 2)])
        self.check([(5, 3), (9, 2), (7, 5), (11, 10)], [(11, 10), (7, 5), (5, 3), (9, 2)])

    def test_equal_ratios_stay(self):
        self.check([(1, 2), (1, 3), (1, 2), (1, 3), (1, 2)], [(1, 3), (1, 3), (1, 2), (1, 2), (1, 2)])
        self.check([(0, 1)] * 5, [(0, 1)] * 5)

    def test_all_sequences(self):
        for values in permutations([(-3, 2), (-1, 3), (0, 1), (2, 5), (1, 2), (7, 3)]):
            self.check(values, [(-3, 2), (-1, 3), (0, 1), (2, 5), (1, 2), (7, 3)])

    def test_against_fractions(self):
        expected = sorted(SMALL, key=lambda value: Fraction(*value))
        self.check(SMALL, expected)
        self.check(SMALL[::-1], expected)
        self.check(SMALL[20:] + SMALL[:20], expected)

    def test_close_neighbours(self):
        # Neighbours in a Farey sequence are as close together as two values with such denominators can be.
        values = [(n - 1, n) for n in range(2, 60)] + [(1, n) for n in range(60, 2, -1)]
        self.check(values, sorted(values, key=lambda value: Fraction(*value)))
        below = [(-p, q) for p, q in values]
        self.check(below, sorted(below, key=lambda value: Fraction(*value)))

    def test_many_digits(self):
        values = [(HUGE + n - 1, HUGE + n) for n in range(8)] + [(1, HUGE), (1, HUGE + 1), (-HUGE, 1), (HUGE, 1)]
        self.check(values[::-1], sorted(values, key=lambda value: Fraction(*value)))
        self.check([(VAST + 1, 1), (VAST, 1), (-1, VAST)], [(-1, VAST), (VAST, 1), (VAST + 1, 1)])

    def test_by_name(self):
        self.assertEqual(sorted_ratios(ratios=[(1, 2), (1, 3)]), [(1, 3), (1, 2)])

    def test_the_list_stays_and_the_result_is_new(self):
        values = [(1, 2), (-3, 2), (1, 3)]
        found = sorted_ratios(values)
        self.assertEqual(values, [(1, 2), (-3, 2), (1, 3)])
        found.append("more")
        found[0] = None
        self.assertEqual(values, [(1, 2), (-3, 2), (1, 3)])
        self.assertEqual(sorted_ratios(values), [(-3, 2), (1, 3), (1, 2)])

    def test_the_result_is_new_also_if_there_is_nothing_to_do(self):
        for values in ([], [(1, 2)], [(1, 3), (1, 2)]):
            found = sorted_ratios(values)
            self.assertIsNot(found, values)
            self.assertIsNot(found, sorted_ratios(values))

    def test_a_ratio_is_a_list_of_two_integers(self):
        self.wrong(InvalidRatio, HUGE, sorted_ratios, (HUGE, 1))


class Wrong(RatioTest):

    def test_every_value_that_is_no_ratio(self):
        for value in NO_RATIOS:
            self.wrong(InvalidRatio, value, ratio_sum, value)
            self.wrong(InvalidRatio, value, ratio_product, value)
            self.wrong(InvalidRatio, value, sorted_ratios, [value])
            self.wrong(InvalidRatio, value, sorted_ratios, (value,))
            self.wrong(InvalidRatio, value, compare_ratios, value, (1, 2))
            self.wrong(InvalidRatio, value, compare_ratios, (1, 2), value)

    def test_at_every_place(self):
        for at in range(9):
            for value in (True, 1, None, "1/2", [1, 2], (1, 0), (2, 4), (True, 1), Thing(), Sly()):
                values = [(1, 2), (0, 1), (-1, 2), (HUGE, 3), (2, 3), (3, 4), (4, 5), (5, 6), (6, 7)]
                values[at] = value
                kept = list(values)
                self.wrong(InvalidRatio, value, ratio_sum, *values)
                self.wrong(InvalidRatio, value, ratio_product, *values)
                self.wrong(InvalidRatio, value, sorted_ratios, values)
                self.wrong(InvalidRatio, value, sorted_ratios, tuple(values))
                self.assertTrue(all(here is there for here, there in zip(kept, values)))

    def test_the_first_of_several(self):
        for first in range(5):
            for second in range(first + 1, 6):
                values = [(n, n + 1) for n in range(6)]
                wrong, later = [1, 2], [1, 2]
                values[first], values[second] = wrong, later
                self.wrong(InvalidRatio, wrong, ratio_sum, *values)
                self.wrong(InvalidRatio, wrong, ratio_product, *values)
                self.wrong(InvalidRatio, wrong, sorted_ratios, values)
        self.wrong(InvalidRatio, "l", compare_ratios, "l", "r")
        self.wrong(InvalidRatio, "r", compare_ratios, (1, 2), "r")

    def test_a_list_of_ratios_is_no_ratio(self):
        values = [(1, 2), (1, 3)]
        self.wrong(InvalidRatio, values, ratio_sum, values)
        self.wrong(InvalidRatio, values, ratio_product, values)


class Example(unittest.TestCase):

    def test_the_example_of_the_document(self):
        found = [ratio(6, -4), ratio_sum((1, 2), (1, 3), (1, 6)), sorted_ratios([(1, 2), (-3, 2), (1, 3)])]
        self.assertEqual(repr(found), "[(-3, 2), (1, 1), [(-3, 2), (1, 3), (1, 2)]]")

    def test_a_query_that_is_repeated(self):
        for _ in range(3):
            self.assertEqual(ratio_sum((1, 2), (1, 3)), (5, 6))
            self.assertEqual(ratio_product((1, 2), (1, 3)), (1, 6))
            self.assertEqual(ratio(4, 6), (2, 3))


if __name__ == "__main__":
    unittest.main()
