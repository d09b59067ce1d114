import math
import unittest

from threeswaps.errors import AbsentError, InvalidInteger, LimitError, ThreeswapsError
from threeswaps.integers import common_divisor, common_multiple, is_integer
from samples import HUGE, INTEGERS, NO_INTEGERS, VAST, Count

NUMBERS = [12, -18, 0, HUGE, -30, 6, 1, 600, 7]


class IsInteger(unittest.TestCase):

    def test_integers(self):
        for value in INTEGERS:
            self.assertIs(is_integer(value), True)

    def test_other_values(self):
        for value in NO_INTEGERS:
            self.assertIs(is_integer(value), False)

    def test_bools_are_not_taken_for_the_integers_they_equal(self):
        self.assertEqual([is_integer(value) for value in (0, False, 1, True)], [True, False, True, False])

    def test_by_name(self):
        self.assertIs(is_integer(value=3), True)
        self.assertIs(is_integer(value=True), False)

    def test_repeated(self):
        self.assertEqual([is_integer(5) for _ in range(3)], [True] * 3)


class Wrong(unittest.TestCase):

    def check(self, function, numbers, value):
        kept = list(numbers)
        with self.assertRaises(InvalidInteger) as found:
            function(*numbers)
        self.assertIs(found.exception.value, value)
        self.assertIsInstance(found.exception, ThreeswapsError)
        self.assertIsInstance(found.exception, ValueError)
        self.assertNotIsInstance(found.exception, (AbsentError, LimitError))
        self.assertTrue(all(here is there for here, there in zip(kept, numbers)))

    def test_one_argument(self):
        for value in NO_INTEGERS:
            self.check(common_divisor, [value], value)
            self.check(common_multiple, [value], value)

    def test_at_every_place_of_nine(self):
        for at in range(9):
            for value in NO_INTEGERS:
                numbers = [6, 10, 15, 1, HUGE, 4, 9, 25, 49]
                numbers[at] = value
                self.check(common_divisor, numbers, value)
                self.check(common_multiple, numbers, value)

    def test_the_first_of_several(self):
        for first in range(8):
            for second in range(first + 1, 9):
                wrong, later = ["first"], ["second"]
                numbers = [1, 1, 2, 3, 5, 8, 13, 21, 34]
                numbers[first], numbers[second] = wrong, later
                self.check(common_divisor, numbers, wrong)
                self.check(common_multiple, numbers, wrong)

    def test_all_wrong(self):
        self.check(common_divisor, [True, False, None], True)
        self.check(common_multiple, [False, True, None], False)

    def test_a_list_is_not_its_items(self):
        numbers = [4, 6]
        self.check(common_divisor, [numbers], numbers)
        self.check(common_multiple, [numbers], numbers)

    def test_behind_a_divisor_of_one(self):
        # Nothing can change the divisor any more, but the wrong argument is still told.
        self.check(common_divisor, [2, 3, "4"], "4")
        self.check(common_divisor, [1, True], True)

    def test_multiples_are_of_numbers_from_one_on(self):
        for value in (0, -1, -6, -HUGE, -VAST, Count(0)):
            self.check(common_multiple, [value], value)
            for at in range(9):
                numbers = [6, 10, 15, 1, 2, 4, 9, 25, 49]
                numbers[at] = value
                self.check(common_multiple, numbers, value)

    def test_what_is_told_first_of_different_faults(self):
        self.check(common_multiple, [3, 0, "x"], 0)
        self.check(common_multiple, [3, "x", 0], "x")
        self.check(common_multiple, [3, -2, True, 0], -2)
        self.check(common_multiple, [3, True, -2, 0], True)


class CommonDivisor(unittest.TestCase):

    def check(self, numbers, expected):
        found = common_divisor(*numbers)
        self.assertEqual(found, expected)
        self.assertIs(is_integer(found), True)

    def test_none_and_zeros(self):
        self.check([], 0)
        self.check([0], 0)
        self.check([0] * 9, 0)

    def test_one(self):
        for number in INTEGERS:
            self.check([number], abs(number))

    def test_several(self):
        self.check([12, 18], 6)
        self.check([12, 18, 4], 2)
        self.check([6, 10, 15], 1)
        self.check([1, 100], 1)
        self.check([7, 7, 7], 7)
        self.check([60, 84, 132, 36, 24, 12, 48, 600, 72], 12)

    def test_zeros_among_others(self):
        self.check([0, 5], 5)
        self.check([5, 0], 5)
        self.check([0, -6, 0, 9, 0], 3)

    def test_negative_numbers(self):
        self.check([-4], 4)
        self.check([-4, 6], 2)
        self.check([4, -6], 2)
        self.check([-4, -6], 2)
        self.check([-1, 0], 1)

    def test_many_digits(self):
        self.check([HUGE * 6, HUGE * 10], HUGE * 2)
        self.check([-HUGE * 6, HUGE * 10, HUGE * HUGE * 2], HUGE * 2)
        self.check([VAST, 7 ** 3000, 0], 7 ** 3000)
        self.check([10 ** 25, 10 ** 25 + 1], 1)

    def test_against_a_search(self):
        for first in range(-12, 13):
            for second in range(-12, 13):
                shared = [n for n in range(1, 13) if first % n == 0 and second % n == 0]
                self.check([first, second], 0 if first == second == 0 else max(shared))
                self.check([first, 6, second], max(n for n in range(1, 7) if not (first % n or 6 % n or second % n)))

    def test_the_sequence_does_not_matter(self):
        for at in range(9):
            self.check(NUMBERS[at:] + NUMBERS[:at], math.gcd(*NUMBERS))


class CommonMultiple(unittest.TestCase):

    def check(self, numbers, expected):
        found = common_multiple(*numbers)
        self.assertEqual(found, expected)
        self.assertIs(is_integer(found), True)

    def test_none_and_one(self):
        self.check([], 1)
        for number in (1, 2, 97, HUGE, VAST, Count(5)):
            self.check([number], number)

    def test_several(self):
        self.check([4, 6], 12)
        self.check([1, 1, 1], 1)
        self.check([2, 3, 5, 7], 210)
        self.check([5, 5], 5)
        self.check([8, 4, 2, 1], 8)
        self.check([1, 2, 3, 4, 5, 6, 7, 8, 9, 10], 2520)

    def test_many_digits(self):
        self.check([HUGE * 6, HUGE * 10], HUGE * 30)
        self.check([10 ** 25, 10 ** 25 + 1], 10 ** 25 * (10 ** 25 + 1))
        self.check([7 ** 3000, VAST, 49], VAST)

    def test_against_a_search(self):
        for first in range(1, 13):
            for second in range(1, 13):
                shared = [n for n in range(1, 145) if n % first == 0 and n % second == 0]
                self.check([first, second], shared[0])
                self.check([second, 1, first, second], shared[0])


if __name__ == "__main__":
    unittest.main()
