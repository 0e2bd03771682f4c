"""Claims in tables of power groups that are never written down."""

import random
import unittest
from fractions import Fraction
from itertools import product
from unittest import mock

from dealtpowers import growing, sparse
from dealtpowers.claims import Claim
from dealtpowers.growing import holds_in_powers
from dealtpowers.products import Product
from dealtpowers.schemas import Schema
from questions import random_claim, sides_at
from samples import random_exponent

BIG = 10 ** 59


def claim_of(low, high, width=1):
    """A claim with the factors of two dicts."""
    return Claim(Schema("xyz"[:width]), Product(width, list(low.items())), Product(width, list(high.items())))


class GrowingTest(unittest.TestCase):
    def check(self, seed, many):
        pick = random.Random(seed)
        seen = []
        for _ in range(many):
            width = pick.randint(1, 3)
            claim = random_claim(pick, Schema("xyz"[:width]), 3)
            if pick.random() < .3:
                factor = Product(width, [(random_exponent(pick, width, 1), 1)])
                claim = Claim(claim.schema, claim.low * factor, claim.high * factor)
            base = pick.choice([2, 2, 3, 4, 10])
            if pick.random() < .3:
                parts = [0, pick.choice([1, 2])]
                groups = [(0, direction) for direction in product(parts, repeat=width)]
            else:
                groups = [(pick.randint(0, 3), random_exponent(pick, width, 2)) for _ in range(pick.randint(1, 4))]
            low, high = sides_at(claim, base, groups)
            self.assertEqual(holds_in_powers(claim, base, groups), low <= high, (claim, base, groups))
            seen.append((low > high) - (low < high))
        self.assertGreater(min(seen.count(-1), seen.count(0), seen.count(1)), many // 20)

    def test_written(self):
        self.check(1, 600)

    def test_not_written(self):
        for steps in (0, 20, 200):
            with mock.patch.object(growing, "SHORT", 0), mock.patch.object(growing, "MOST_STEPS", steps):
                self.check(2 + steps, 400)

    def test_not_multiplied_out(self):
        # Without sparse products all that is left are the first terms; they tell nearly all that is not equal.
        pick = random.Random(5)
        with mock.patch.object(growing, "SHORT", 0), mock.patch.object(growing, "MOST_STEPS", 0), \
                mock.patch.object(sparse, "MOST_TIMES", 0):
            for _ in range(400):
                claim = random_claim(pick, Schema("xy"), 3)
                groups = [(pick.randint(0, 3), random_exponent(pick, 2, 2)) for _ in range(3)]
                low, high = sides_at(claim, 2, groups)
                if low != high:
                    self.assertEqual(holds_in_powers(claim, 2, groups), low <= high, (claim, groups))

    def test_equal_sides_of_great_powers(self):
        corners = [(0, direction) for direction in product([0, BIG], repeat=2)]
        equal = claim_of({(0, 0): 1, (1, 1): 1}, {(1, 0): 1, (0, 1): 1}, 2)
        self.assertTrue(holds_in_powers(equal, 2, corners))
        self.assertTrue(holds_in_powers(equal.turned(), 2, corners))
        self.assertTrue(holds_in_powers(claim_of({(3,): BIG}, {(3,): BIG}), 2, [(BIG, (0,)), (0, (1,))]))
        long = Claim(equal.schema, equal.low ** BIG, equal.high ** BIG)
        self.assertTrue(holds_in_powers(long, 2, corners) and holds_in_powers(long.turned(), 2, corners))

    def test_nearly_equal_sides(self):
        groups = [(BIG, (0,)), (0, (1,))]
        for low, high, wanted in (({(1,): 1}, {(2,): 1}, True), ({(2,): 1}, {(1,): 1}, False),
                                  ({(2,): BIG}, {(1,): BIG}, False),
                                  ({(2,): BIG}, {(1,): BIG - 1, (0,): 1}, False),
                                  ({(1,): BIG - 1, (0,): 1}, {(2,): BIG}, True),
                                  ({(2,): BIG}, {(1,): BIG, (0,): 1}, True),
                                  ({(2,): BIG}, {(3,): BIG - 1, (0,): 1}, True),
                                  ({(1,): 2}, {(0,): 1, (2,): 1}, True), ({(0,): 1, (2,): 1}, {(1,): 2}, False)):
            for base in (2, 3, 10 ** 60 - 1):
                self.assertEqual(holds_in_powers(claim_of(low, high), base, groups), wanted, (low, high, base))

    def test_a_base_that_meets_what_equal_terms_give(self):
        # The two terms of S[x2] are equal, so it has the factor 2, and with the base 2 this makes both sides equal but
        # for the terms far behind: with S[]^3 only they tell that the low is more.
        for size in (1, 2 ** 10, 2 ** 30, 2 ** 190):
            groups = [(2 * size, (0,)), (0, (size,))]
            for power, wanted in ((2, True), (3, False), (4, False)):
                claim = claim_of({(0,): power, (1,): 2 * size, (4,): 2 * size}, {(2,): 6 * size})
                self.assertEqual(holds_in_powers(claim, 2, groups), wanted if size > 1 else False)
                self.assertEqual(holds_in_powers(claim.turned(), 2, groups), not wanted if size > 1 else True)

    def test_sums_of_one_term(self):
        for claim, wanted in ((claim_of({(1,): BIG}, {(2,): BIG}), True), (claim_of({(2,): BIG}, {(1,): BIG}), False),
                              (claim_of({(2,): BIG}, {(1,): 2 * BIG}), True), (claim_of({}, {}), True)):
            self.assertEqual(holds_in_powers(claim, 2, [(0, (BIG,))]), wanted)
            self.assertEqual(holds_in_powers(claim, 2, [(0, (BIG,))] * 100), claim != claim_of({(2,): BIG}, {(1,): BIG}))


class TailsTest(unittest.TestCase):
    """What is told of tails that are not written down, held against what they are."""

    def random_tail(self, pick, most):
        depths = sorted({0, *(pick.randint(1, most) for _ in range(pick.randint(0, 3)))})
        return tuple((depth, pick.randint(1, 9)) for depth in depths)

    def worth(self, base, tail):
        return sum(Fraction(count, base ** depth) for depth, count in tail)

    def test_spans(self):
        pick = random.Random(8)
        for _ in range(500):
            base, bits = pick.choice([2, 3, 7, 16, 10 ** 9]), pick.randint(1, 40)
            tail = self.random_tail(pick, pick.choice([4, 60]))
            down, up = growing._tail_span(base, tail, bits)
            self.assertTrue(down <= self.worth(base, tail) * 2 ** bits <= up, (base, tail, bits))
            self.assertLessEqual(up - down, len(tail) - 1)

    def test_heads(self):
        tail = ((0, 3), (4, 1), (8, 5), (9, 1), (10 ** 50, 1))
        self.assertEqual([growing._head(2, tail, bits) for bits in (0, 15, 16, 18)],
                         [[(0, 3)], [(0, 3), (4, 1)], [(0, 3), (4, 1), (8, 5)], list(tail[:4])])

    def test_products_that_are_nearly_1(self):
        # The heads make 1 together, and the rest is deep; so its first order mostly tells the sign.
        pick = random.Random(9)
        seen = []
        for _ in range(400):
            base, bits = pick.choice([2, 2, 3, 10]), 24
            heads = [((0, pick.randint(1, 4)), (pick.randint(1, 2), pick.randint(1, 3))) for _ in range(pick.randint(1, 2))]
            parts, lead = [], 0
            for head in heads:
                power = pick.randint(1, 4)
                for sign in (1, -1):
                    deep = [(depth, pick.randint(1, 5)) for depth in sorted({pick.choice([300, 300, 301, 350, 700])
                                                                             for _ in range(pick.randint(0, 2))})]
                    parts.append((head + tuple(deep), sign * power))
            if pick.random() < .3:
                parts, lead = parts + [(((0, base ** 2), (400, 1)), 1)], -2
            whole = Fraction(base) ** lead
            for tail, power in parts:
                whole *= self.worth(base, tail) ** power
            wanted = (whole > 1) - (whole < 1)
            with mock.patch.object(sparse, "MOST_TIMES", 0):
                found = growing._nearly(base, lead, parts, bits)
            self.assertIn(found, (wanted, None), (base, lead, parts))
            seen.append(found)
            self.assertEqual(growing._nearly(base, lead, parts, bits), wanted)
        self.assertTrue(seen.count(None) < 60 < min(seen.count(1), seen.count(-1)) and 0 in seen)

    def test_products_whose_heads_are_not_1(self):
        parts = [(((0, 3), (300, 1)), 1), (((0, 2), (300, 1)), -1)]
        with mock.patch.object(sparse, "MOST_TIMES", 0):
            self.assertIsNone(growing._nearly(2, 0, parts, 24))
        self.assertEqual(growing._nearly(2, 0, parts, 24), 1)

    def test_what_the_first_order_does_not_tell(self):
        # (1 + r) * (1 + r) against 1 + 2 * r: only the square of r tells.
        parts = [(((0, 1), (300, 1)), 2), (((0, 1), (300, 2)), -1)]
        with mock.patch.object(sparse, "MOST_TIMES", 0):
            self.assertIsNone(growing._nearly(2, 0, parts, 24))
        self.assertEqual(growing._nearly(2, 0, parts, 24), 1)
        self.assertEqual(growing._nearly(2, 0, [(tail, -power) for tail, power in parts], 24), -1)


class SparseTest(unittest.TestCase):
    def test_signs(self):
        pick = random.Random(7)
        for _ in range(500):
            base = pick.randint(2, 5)
            terms = sorted({pick.randint(0, 12): pick.randint(-9, 9) for _ in range(pick.randint(0, 5))}.items())
            worth = sum(count * base ** (12 - depth) for depth, count in terms)
            self.assertEqual(sparse.sign_of(base, terms), (worth > 0) - (worth < 0), (base, terms))
        self.assertEqual(sparse.sign_of(2, [(0, 1), (1, -2), (BIG, -1)]), -1)
        self.assertEqual(sparse.sign_of(2, [(0, 1), (1, -1), (BIG, -1)]), 1)

    def test_products(self):
        self.assertEqual(sparse.multiplied([]), [(0, 1)])
        self.assertEqual(sparse.multiplied([([(0, 1), (BIG, 1)], 2)]), [(0, 1), (BIG, 2), (2 * BIG, 1)])
        self.assertIsNone(sparse.multiplied([([(0, 1), (1, 1)], BIG)]))


if __name__ == "__main__":
    unittest.main()
