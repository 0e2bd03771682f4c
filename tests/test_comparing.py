"""Products of powers are compared exactly, however long they are."""

import random
import unittest
from math import prod

from dealtpowers.comparing import is_at_most

LONG = 10 ** 60 - 1
# The steps of the fractions that come ever nearer to log 3 / log 2, from both sides in turn.
NEAR = [1, 1, 1, 2, 2, 3, 1, 5, 2, 23, 2, 2, 1, 1, 55, 1, 4, 3, 1, 1, 15, 1, 9, 2, 5, 7, 1, 1, 4, 8, 1, 11, 1, 20, 2, 1,
        10, 1, 4, 1, 1, 1, 1, 1, 37, 4, 55, 1, 1, 49]


def plain(parts):
    return prod(number ** power for number, power in parts)


class ComparingTest(unittest.TestCase):
    def check(self, low, high, least, most):
        """Tests both ways whether low is at most high (least), and high at most low (most)."""
        self.assertIs(is_at_most(low, high), least)
        self.assertIs(is_at_most(high, low), most)

    def test_against_plain_numbers(self):
        pick = random.Random(71)
        equal = 0
        for _ in range(3000):
            low, high = [[(pick.randint(1, 12), pick.randint(1, 6)) for _ in range(pick.randint(0, 4))] for _ in "ab"]
            self.check(low, high, plain(low) <= plain(high), plain(high) <= plain(low))
            equal += plain(low) == plain(high)
        self.assertGreater(equal, 50)

    def test_numbers_side_by_side(self):
        for number in (1, 2, 3, 63, 64, 65, 2 ** 200 - 1, 2 ** 200, LONG, 10 ** 2000):
            self.check([(number, 1)], [(number + 1, 1)], True, False)
            self.check([(number, LONG)], [(number + 1, LONG)], True, False)
            self.check([(number, LONG)], [(number, LONG)], True, True)
            self.check([(number ** 3, LONG)], [(number, 3 * LONG)], True, True)
            self.check([(number * (number + 2), LONG)], [(number + 1, 2 * LONG)], True, False)

    def test_nothing(self):
        self.check([], [], True, True)
        self.check([], [(1, LONG)], True, True)
        self.check([], [(2, 1)], True, False)
        self.check([], [(2, LONG)], True, False)

    def test_powers_that_make_up_for_each_other(self):
        self.check([(6, LONG)], [(2, LONG), (3, LONG)], True, True)
        self.check([(6, LONG)], [(2, LONG), (3, LONG), (5, 1)], True, False)
        self.check([(12, LONG), (18, LONG)], [(6, 3 * LONG)], True, True)
        self.check([(4, 3 * LONG), (27, 2 * LONG)], [(8, 2 * LONG), (9, 3 * LONG)], True, True)
        self.check([(4, 3 * LONG), (27, 2 * LONG)], [(8, 2 * LONG), (9, 3 * LONG - 1), (3, 1)], False, True)
        self.check([(2 ** 5000, LONG)], [(8, 5000 * LONG // 3), (4, 0)], 5000 * LONG // 3 * 3 == 5000 * LONG, True)
        self.check([(2 ** 50000 * 3, LONG), (5, 1)], [(2, 50000 * LONG), (3, LONG), (5, 1)], True, True)

    def test_long_powers_without_a_common_divisor(self):
        more, less = LONG, LONG - 1
        equal = [(12, more), (18, less)], [(2, 2 * more + less), (3, more + 2 * less)]
        self.check(*equal, True, True)
        self.check(equal[0] + [(1, 7)], equal[1] + [(1, LONG), (9, 0)], True, True)
        self.check(equal[0] + [(5, 1)], equal[1], False, True)
        self.check(equal[0] + [(2, 1)], equal[1] + [(3, 1)], True, False)
        self.check(equal[0] + [(10 ** 60, 1)], equal[1] + [(10 ** 60 + 1, 1)], True, False)
        self.check([(2 ** 50000 * 3, more), (7, less)], [(2, 50000 * more), (21, less), (3, 1)], True, True)
        self.check([(2 ** 50000 * 3, more), (7, less)], [(2, 50000 * more), (21, less), (3, 2)], True, False)
        self.check([(2 ** 50000 * 3, more), (7, less)], [(2, 50000 * more - 1), (21, less), (3, 1)], False, True)

    def test_equal_products_of_many_numbers(self):
        pick = random.Random(72)
        for _ in range(60):
            primes = [pick.choice([2, 3, 5, 7, 11, 10 ** 9 + 7]) for _ in range(12)]
            powers = [pick.randint(1, LONG) for _ in primes]
            common = pick.randint(1, LONG)
            low = [(prime * 6, power) for prime, power in zip(primes, powers)]
            high = list(zip(primes, powers)) + [(6, sum(powers))]
            self.check(low, high, True, True)
            self.check(low, high + [(common + 1, 1)], True, False)

    def test_powers_that_are_nearly_equal(self):
        # 3 ** down is above 2 ** up if up / down is below log 3 / log 2, and below it otherwise.
        before, last = (0, 1), (1, 0)
        for at, step in enumerate(NEAR):
            before, last = last, (step * last[0] + before[0], step * last[1] + before[1])
            up, down = last
            self.check([(2, up)], [(3, down)], at % 2 == 0, at % 2 == 1)
            if down < 20000:
                self.assertIs(2 ** up <= 3 ** down, at % 2 == 0)
        self.assertGreater(last[1], 10 ** 20)

    def test_numbers_that_are_nearly_equal(self):
        one, other = 10 ** 1000 + 1, 10 ** 1000 + 2
        self.check([(one, LONG)], [(other, LONG)], True, False)
        self.check([(one, LONG), (2, 1)], [(other, LONG)], False, True)
        self.check([(one, 2 * LONG)], [(one - 1, LONG), (one + 1, LONG)], False, True)
        one, other = 10 ** 100 + 1, 10 ** 100 + 2
        self.check([(one, LONG), (other, LONG - 1)], [(one, LONG - 1), (other, LONG)], True, False)
        self.check([(one, LONG), (other, LONG - 1)], [(one - 1, LONG), (other + 1, LONG - 1)], False, True)


if __name__ == "__main__":
    unittest.main()
