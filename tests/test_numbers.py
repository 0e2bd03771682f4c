"""Numbers, roots and common divisors."""

import random
import unittest
from math import gcd

from dealtpowers.errors import InvalidNumber
from dealtpowers.numbers import ceiling_root, floor_root, is_number, lowest
from dealtpowers.systems import Outcome

NO_NUMBERS = [None, True, False, "", "3", "a text", (), (3,), [], [3], [[1], (2,)], Outcome([], [])]


class IsNumberTest(unittest.TestCase):
    def test_numbers(self):
        for value in (-10 ** 60, -1, 0, 1, 2, 59, 10 ** 60 - 1):
            for least in (-10 ** 60, -1, 0, 1, 60, 10 ** 60):
                self.assertIs(is_number(value, least), value >= least)

    def test_no_numbers(self):
        for value in NO_NUMBERS:
            for least in (-5, 0, 1):
                self.assertIs(is_number(value, least), False)

    def test_by_name(self):
        self.assertIs(is_number(value=3, least=3), True)
        self.assertIs(is_number(least=4, value=3), False)


class RootsTest(unittest.TestCase):
    def check(self, number, degree):
        low = floor_root(number, degree)
        high = ceiling_root(number, degree)
        self.assertTrue(0 <= low and low ** degree <= number < (low + 1) ** degree, (number, degree))
        self.assertTrue(high ** degree >= number, (number, degree))
        self.assertTrue(high == 0 or (high - 1) ** degree < number, (number, degree))
        self.assertIs(type(low), int)
        self.assertIs(type(high), int)

    def test_small_numbers(self):
        for degree in range(1, 61):
            for number in range(0, 70):
                self.check(number, degree)

    def test_zero_and_one(self):
        for degree in range(1, 61):
            self.assertEqual([floor_root(0, degree), ceiling_root(0, degree)], [0, 0])
            self.assertEqual([floor_root(1, degree), ceiling_root(1, degree)], [1, 1])

    def test_exact_powers_and_the_numbers_beside_them(self):
        for degree in range(1, 61):
            for root in (2, 3, 7, 9, 10, 99, 10 ** 6, 10 ** 20 + 7, 10 ** 60 - 1):
                number = root ** degree
                if degree > 1 and number >= 10 ** 60 and root > 10:
                    continue
                self.assertEqual([floor_root(number, degree), ceiling_root(number, degree)], [root, root])
                if degree > 1:
                    self.assertEqual([floor_root(number - 1, degree), ceiling_root(number - 1, degree)],
                                     [root - 1, root])
                    self.assertEqual([floor_root(number + 1, degree), ceiling_root(number + 1, degree)],
                                     [root, root + 1])

    def test_numbers_of_60_digits(self):
        pick = random.Random(7)
        for degree in range(1, 61):
            for number in [10 ** 60 - 1, 10 ** 59] + [pick.randrange(10 ** 59, 10 ** 60) for _ in range(5)]:
                self.check(number, degree)

    def test_greater_numbers(self):
        number = 3 ** 5000 + 1
        for degree in (1, 2, 3, 59, 60):
            self.check(number, degree)

    def test_wrong_numbers(self):
        for root in (floor_root, ceiling_root):
            for wrong in NO_NUMBERS + [-1, -10 ** 60]:
                with self.assertRaises(InvalidNumber) as caught:
                    root(wrong, 2)
                self.assert_given(caught.exception, wrong)

    def test_wrong_degrees(self):
        for root in (floor_root, ceiling_root):
            for wrong in NO_NUMBERS + [0, -1, 61, 62, 10 ** 60]:
                for number in (0, 1, 5, 10 ** 60 - 1):
                    with self.assertRaises(InvalidNumber) as caught:
                        root(number, wrong)
                    self.assert_given(caught.exception, wrong)

    def test_the_number_is_checked_first(self):
        for root in (floor_root, ceiling_root):
            with self.assertRaises(InvalidNumber) as caught:
                root(-3, 0)
            self.assert_given(caught.exception, -3)
            with self.assertRaises(InvalidNumber) as caught:
                root("a", "b")
            self.assert_given(caught.exception, "a")

    def test_by_name(self):
        self.assertEqual(floor_root(degree=2, number=10), 3)
        self.assertEqual(ceiling_root(number=10, degree=2), 4)

    def assert_given(self, error, value):
        self.assertEqual(error.given, value)
        self.assertIs(type(error.given), type(value))
        self.assertEqual(error.code, "InvalidNumber")


class LowestTest(unittest.TestCase):
    def test_empty_and_zeros(self):
        self.assertEqual(lowest([]), [])
        self.assertEqual(lowest([0]), [0])
        self.assertEqual(lowest([0, 0, 0]), [0, 0, 0])

    def test_common_divisors(self):
        self.assertEqual(lowest([6]), [1])
        self.assertEqual(lowest([1, 5]), [1, 5])
        self.assertEqual(lowest([6, 4]), [3, 2])
        self.assertEqual(lowest([0, 6, 0, 9, 15]), [0, 2, 0, 3, 5])
        self.assertEqual(lowest([7, 7]), [1, 1])
        self.assertEqual(lowest([10 ** 60 - 2, 2 * (10 ** 60 - 2), 0]), [1, 2, 0])

    def test_many(self):
        pick = random.Random(3)
        for _ in range(200):
            numbers = [pick.choice([0, 1, 6, 35, 10 ** 30]) * pick.randrange(50) for _ in range(pick.randrange(7))]
            common = gcd(*numbers)
            self.assertEqual(lowest(numbers), [n // common for n in numbers] if common else numbers)

    def test_what_is_passed_stays(self):
        for numbers in ([6, 4], [0, 0], [], [1, 3]):
            before = list(numbers)
            found = lowest(numbers)
            found.append(9)
            self.assertEqual(numbers, before)

    def test_a_tuple_may_be_passed(self):
        self.assertEqual(lowest((4, 8)), [1, 2])
        self.assertEqual(lowest((0, 0)), [0, 0])
        self.assertEqual(lowest(()), [])
        self.assertEqual(lowest(numbers=[3, 0]), [1, 0])


if __name__ == "__main__":
    unittest.main()
