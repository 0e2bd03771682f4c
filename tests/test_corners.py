"""Points [19], [20] and [22] of the document, and dealtpowers/corners.py."""

import random
import unittest
from fractions import Fraction
from math import gcd

from checks import in_system, vertices
from dealtpowers.claims import Claim, read_claim
from dealtpowers.corners import base, combined, corners, lower_bounds, upper_bounds
from dealtpowers.judging import is_true
from dealtpowers.products import Product
from dealtpowers.schemas import Schema
from questions import power_in, random_claim, random_schema
from samples import ANY_VALUES, is_plain_exponent, raised_by, random_exponent, times

COLUMN = Schema("x")
LINE = [(0,), (1,), (2,)]


def all_corners(schema, sums, goal):
    """The errors of a generator come when its first item is asked for."""
    return list(corners(schema, sums, goal))


def random_sums(pick, width, many, most=3):
    return sorted({random_exponent(pick, width, most) for _ in range(many)}, key=lambda _: pick.random())


def system_of(schema, sums, goal):
    """The rows and bounds of the mixes that cover a goal, by point [19]."""
    rays = schema.rays()
    return ([[1] * len(sums)] + [[times(ray, exponent) for exponent in sums] for ray in rays],
            [1] + [times(ray, goal) for ray in rays])


def bound_of(schema, sums, goal, mix):
    """The claim of a mix, by point [19]."""
    high = [(exponent, part) for exponent, part in zip(sums, mix[1]) if part > 0]
    return Claim(schema, Product(schema.width, [(goal, mix[0])]), Product(schema.width, high))


def gains(claim):
    """The powers in the high less those in the low, where they are not 0."""
    exponents = {exponent for side in (claim.low, claim.high) for exponent, _ in side.factors()}
    found = {exponent: power_in(claim.high, exponent) - power_in(claim.low, exponent) for exponent in exponents}
    return {exponent: power for exponent, power in found.items() if power != 0}


def is_combined(claim, claims, scale, multipliers):
    """Whether a scale and multipliers show that a claim is combined from others."""
    if scale < 1 or len(multipliers) != len(claims) or min(multipliers, default=0) < 0:
        return False
    total = {exponent: -scale * power for exponent, power in gains(claim).items()}
    for other, number in zip(claims, multipliers):
        for exponent, power in gains(other).items():
            total[exponent] = total.get(exponent, 0) + number * power
    return not any(total.values())


class CornersTest(unittest.TestCase):
    def check(self, schema, sums, goal):
        found = all_corners(schema, sums, goal)
        rows, bounds = system_of(schema, sums, goal)
        wanted = {tuple(point) for point in vertices(rows, bounds, len(sums))}
        self.assertEqual({tuple(Fraction(part, scale) for part in parts) for scale, parts in found}, wanted)
        self.assertEqual(len(found), len(wanted))
        self.assertEqual(found, sorted(found))
        for scale, parts in found:
            self.assertEqual([gcd(scale, *parts), type(parts), len(parts)], [1, tuple, len(sums)])
            self.assertTrue(in_system(rows, bounds, [Fraction(part, scale) for part in parts]))
        return found

    def test_by_all_vertices(self):
        pick = random.Random(1)
        seen = []
        for _ in range(150):
            schema = random_schema(pick, 3)
            sums = random_sums(pick, schema.width, pick.randint(1, 4), pick.choice([1, 2, 6]))
            goal = pick.choice([*sums, random_exponent(pick, schema.width, 2)])
            seen.append(len(self.check(schema, sums, goal)))
        self.assertTrue(0 in seen and 1 in seen and max(seen) > 4)

    def test_five_sums(self):
        pick = random.Random(2)
        for _ in range(12):
            schema = random_schema(pick)
            self.check(schema, random_sums(pick, schema.width, 5, 6)[:5], random_exponent(pick, schema.width))

    def test_by_hand(self):
        self.assertEqual(self.check(COLUMN, [(0,), (2,)], (1,)), [(1, (0, 1)), (2, (1, 1))])
        self.assertEqual(self.check(COLUMN, LINE, (1,)), [(1, (0, 0, 1)), (1, (0, 1, 0)), (2, (1, 0, 1))])
        self.assertEqual(self.check(COLUMN, [(1,)], (1,)), [(1, (1,))])
        self.assertEqual(self.check(COLUMN, [(0,)], (1,)), [])
        self.assertEqual(self.check(COLUMN, [(1,)], (6,)), [(1, (6,))])
        self.assertEqual(self.check(COLUMN, [(4,)], (6,)), [(2, (3,))])
        plane = Schema("xy")
        self.assertEqual(self.check(plane, [(2, 0), (0, 2)], (1, 1)), [(2, (1, 1))])
        self.assertEqual(self.check(plane, [(2, 0)], (1, 1)), [])
        self.assertEqual(self.check(Schema("xy", [((0, 1), (1, 0))]), [(2, 0)], (1, 1)), [(1, (1,))])
        # Without rays there are only rows of ones.
        self.assertEqual(self.check(Schema("x", [((1,), (0,))]), [(0,), (5,)], (3,)), [(1, (0, 1)), (1, (1, 0))])

    def test_mixes_that_cover_are_at_least_some_corner(self):
        pick = random.Random(3)
        for _ in range(100):
            schema = random_schema(pick, 3)
            sums, goal = random_sums(pick, schema.width, 3), random_exponent(pick, schema.width, 3)
            rows, bounds = system_of(schema, sums, goal)
            found = all_corners(schema, sums, goal)
            for _ in range(20):
                mix = [Fraction(pick.randint(0, 6), pick.randint(1, 3)) for _ in sums]
                self.assertTrue(found or not in_system(rows, bounds, mix))
                worths = [pick.randint(0, 9) for _ in sums]
                if in_system(rows, bounds, mix):
                    least = min(Fraction(times(parts, worths), scale) for scale, parts in found)
                    self.assertGreaterEqual(times(mix, worths), least)

    def test_covers_exactly_if_the_claim_is_true(self):
        pick = random.Random(4)
        for _ in range(200):
            schema = random_schema(pick, 3)
            sums, goal = random_sums(pick, schema.width, 3), random_exponent(pick, schema.width, 3)
            mix = (pick.randint(1, 3), tuple(pick.randint(0, 3) for _ in sums))
            rows, bounds = system_of(schema, sums, goal)
            self.assertEqual(is_true(bound_of(schema, sums, goal, mix)),
                             in_system(rows, bounds, [Fraction(part, mix[0]) for part in mix[1]]))

    def test_it_is_a_generator(self):
        made = corners(None, None, None)
        self.assertFalse(isinstance(made, (list, tuple)))
        made = corners(COLUMN, [(0,), (2,)], (1,))
        self.assertEqual([next(made), next(made), next(made, None)], [(1, (0, 1)), (2, (1, 1)), None])
        wrong = corners(COLUMN, [], (1,))
        self.assertEqual(raised_by(lambda: next(wrong)), ("InvalidSums", -1))

    def test_sums_may_change_between_two_corners(self):
        sums = [(0,), (2,)]
        made = corners(COLUMN, sums, (1,))
        first = next(made)
        sums.clear()
        self.assertEqual([first, *made], [(1, (0, 1)), (2, (1, 1))])


class BoundsTest(unittest.TestCase):
    def test_upper_bounds(self):
        pick = random.Random(5)
        for _ in range(150):
            schema = random_schema(pick)
            sums = random_sums(pick, schema.width, pick.randint(1, 5), pick.choice([1, 3, 6]))
            goal = pick.choice([*sums, random_exponent(pick, schema.width)])
            found = upper_bounds(schema, sums, goal)
            self.assertEqual(found, [bound_of(schema, sums, goal, mix) for mix in corners(schema, sums, goal)])
            self.assertTrue(all(is_true(claim) for claim in found))
            self.assertIs(type(found), list)

    def test_lower_bounds(self):
        pick = random.Random(6)
        seen = 0
        for _ in range(150):
            schema = random_schema(pick)
            sums = random_sums(pick, schema.width, pick.randint(1, 4), pick.choice([1, 3, 6]))
            goal = pick.choice([*sums, random_exponent(pick, schema.width)])
            wider = sums if goal in sums else [*sums, goal]
            wanted = [bound_of(schema, wider, exponent, mix) for exponent in sums if exponent != goal
                      for mix in corners(schema, wider, exponent) if mix[1][wider.index(goal)] > 0]
            found = lower_bounds(schema, sums, goal)
            self.assertEqual(found, wanted)
            self.assertTrue(all(is_true(claim) and claim.high.power(goal) > 0 for claim in found))
            seen += len(found) > 1
        self.assertGreater(seen, 40)

    def test_by_hand(self):
        self.assertEqual([claim.text() for claim in upper_bounds(COLUMN, [(0,), (2,)], (1,))],
                         ["S[x] <= S[x2]", "S[x]^2 <= S[] S[x2]"])
        self.assertEqual([claim.text() for claim in lower_bounds(COLUMN, [(0,), (2,)], (1,))],
                         ["S[] <= S[x]", "S[x2] <= S[x]^2"])
        self.assertEqual([claim.text() for claim in lower_bounds(COLUMN, LINE, (1,))],
                         ["S[] <= S[x]", "S[x2] <= S[x]^2"])
        self.assertEqual(lower_bounds(COLUMN, [(1,)], (1,)), [])
        self.assertEqual([claim.text() for claim in upper_bounds(COLUMN, [(1,)], (1,))], ["S[x] <= S[x]"])
        self.assertEqual([claim.text() for claim in lower_bounds(COLUMN, [(2,), (0,)], (3,))],
                         ["S[x2] <= S[x3]", "S[x2]^3 <= S[] S[x3]^2", "S[] <= S[x3]"])


class BaseTest(unittest.TestCase):
    def candidates(self, schema, sums):
        found = [Claim(schema, Product(schema.width), Product(schema.width, [(exponent, 1)])) for exponent in sums]
        for exponent in sums:
            others = [other for other in sums if other != exponent]
            found += upper_bounds(schema, others, exponent) if others else []
        return found

    def test_base(self):
        pick = random.Random(7)
        seen = 0
        for _ in range(120):
            schema = random_schema(pick, 2)
            sums = random_sums(pick, schema.width, pick.randint(1, 5), pick.choice([1, 3, 6]))
            if any(schema.equal_sums(one, other) for one in sums for other in sums if one != other):
                continue
            seen += 1
            found, candidates = base(schema, sums), self.candidates(schema, sums)
            key = [(tuple(claim.low.factors()), tuple(claim.high.factors())) for claim in found]
            self.assertEqual(key, sorted(key))
            self.assertTrue(all(claim in candidates and is_true(claim) for claim in found))
            for at, claim in enumerate(found):
                self.assertIsNone(combined(claim, found[:at] + found[at + 1:]))
            for claim in candidates:
                self.assertTrue(is_combined(claim, found, *combined(claim, found)))
                others = [other for other in candidates if other != claim]
                self.assertEqual(combined(claim, others) is None, claim in found)
            self.assertEqual(base(schema, list(reversed(sums))), found)
            self.check_true_claims(pick, schema, sums, found)
        self.assertGreater(seen, 60)

    def check_true_claims(self, pick, schema, sums, found):
        """All true claims that have no other sums are combined from the base, and no others."""
        for _ in range(6):
            sides = [Product(schema.width, [(pick.choice(sums), pick.randint(1, 3)) for _ in range(3)]) for _ in range(2)]
            claim = Claim(schema, *sides)
            self.assertEqual(combined(claim, found) is not None, is_true(claim))

    def test_by_hand(self):
        self.assertEqual([claim.text() for claim in base(COLUMN, LINE)],
                         ["S[] <= S[x]", "S[x]^2 <= S[] S[x2]", "S[x2] <= S[x]^2"])
        self.assertEqual([claim.text() for claim in base(COLUMN, [(3,)])], ["1 <= S[x3]"])
        self.assertEqual([claim.text() for claim in base(COLUMN, [(1,), (0,)])], ["1 <= S[]", "S[] <= S[x]"])
        plane = Schema("xy", [((1, 0), (0, 1))])
        self.assertEqual([claim.text() for claim in base(plane, [(1, 0), (0, 1)])], ["1 <= S[x]", "S[x] <= S[y]"])

    def test_equal_sums(self):
        same = Schema("xy", [((1, 0), (0, 1)), ((0, 1), (1, 0))])
        self.assertEqual(raised_by(base, same, [(1, 0), (0, 2), (0, 1)]), ("EqualSums", 2))
        self.assertEqual(raised_by(base, same, [(1, 1), (0, 2), (2, 0)]), ("EqualSums", 1))
        self.assertEqual(raised_by(base, Schema("x", [((1,), (0,))]), [(5,), (2,)]), ("EqualSums", 1))
        self.assertIsNone(raised_by(base, Schema("xy"), [(1, 0), (0, 2), (0, 1)]))


class CombinedTest(unittest.TestCase):
    def test_by_plain_arithmetic(self):
        pick = random.Random(8)
        seen = []
        for _ in range(300):
            schema = random_schema(pick, 1)
            claims = [random_claim(pick, schema, 2, 1) for _ in range(pick.randint(0, 6))]
            claim = random_claim(pick, schema, 2, 1)
            if claims and pick.random() < .5:
                for other in pick.sample(claims, min(2, len(claims))):
                    claim = claim * other if pick.random() < .1 else other * other
            found = combined(claim, claims)
            seen.append(found is None)
            if found is not None:
                self.assertEqual([type(found), len(found), type(found[1])], [tuple, 2, tuple])
                self.assertTrue(is_combined(claim, claims, *found))
            self.assertEqual(combined(claim, tuple(claims)), found)
        self.assertGreater(min(seen.count(True), seen.count(False)), 60)

    def test_products_of_claims_are_combined(self):
        pick = random.Random(9)
        for _ in range(100):
            claims = [random_claim(pick, COLUMN, 3, 6) for _ in range(4)]
            whole = claims[0] ** pick.randint(1, 3) * claims[1].to_the(pick.randint(0, 3)) * claims[2]
            self.assertTrue(is_combined(whole, claims, *combined(whole, claims)))
            self.assertTrue(is_combined(claims[3], [claims[3] ** 3], *combined(claims[3], [claims[3] ** 3])))

    def test_by_hand(self):
        one, two, three = (read_claim(COLUMN, line) for line in ("S[] <= S[x]", "S[x] <= S[x2]", "S[] <= S[x2]"))
        self.assertEqual(combined(three, [one, two]), (1, (1, 1)))
        self.assertEqual(combined(three, [one]), None)
        self.assertEqual(combined(three, [three.turned()]), None)
        self.assertEqual(combined(one, [one ** 3]), (3, (1,)))
        self.assertEqual(combined(one.times(two.low), [one]), (1, (1,)))
        self.assertEqual(combined(read_claim(COLUMN, "1 <= 1"), []), (1, ()))
        self.assertEqual(combined(read_claim(COLUMN, "S[x] <= S[x]"), [])[1], ())
        self.assertIsNone(combined(one, []))
        nothing = combined(read_claim(COLUMN, "S[x] <= S[x]"), [read_claim(COLUMN, "1 <= 1"), one])
        self.assertTrue(nothing[0] >= 1 and nothing[1][1] == 0)
        self.assertIsNone(combined(one, [read_claim(COLUMN, "1 <= 1")] * 2))

    def test_other_schemas(self):
        other = read_claim(Schema("y", [((1,), (2,))]), "S[] <= S[y]")
        self.assertEqual(combined(read_claim(COLUMN, "S[]^2 <= S[x]^2"), [other]), (1, (2,)))

    def test_many_claims(self):
        pick = random.Random(10)
        claims = [random_claim(pick, Schema("xyz"), 12, 6, 9) for _ in range(60)]
        self.assertTrue(is_combined(claims[0] ** 2, claims, *combined(claims[0] ** 2, claims)))
        big = Product(1, [((1,), 10 ** 60 - 1)])
        claim = Claim(COLUMN, big, Product(1, [((2,), 10 ** 59)]))
        self.assertTrue(is_combined(claim, [claim ** 7], *combined(claim, [claim ** 7])))


class ErrorsTest(unittest.TestCase):
    CALLS = [all_corners, upper_bounds, lower_bounds]

    def check(self, sums, goal, wanted):
        for call in self.CALLS:
            self.assertEqual(raised_by(call, COLUMN, sums, goal), wanted, (sums, goal))
        if wanted is not None and wanted[0] == "InvalidSums":
            self.assertEqual(raised_by(base, COLUMN, sums), wanted)

    def test_sums(self):
        for value in ANY_VALUES:
            if not isinstance(value, (list, tuple)):
                self.check(value, (1,), ("InvalidSums", -1))
            if not is_plain_exponent(value, 1):
                self.check([value], (1,), ("InvalidSums", 0))
                self.check([(0,), (1,), value, value], (1,), ("InvalidSums", 2))
        for value in ([], (), [(at,) for at in range(6)], [None] * 6, [(1,)] * 60):
            self.check(value, (1,), ("InvalidSums", -1))
        self.check([(0,), (1,), (0,), (9,)], (1,), ("InvalidSums", 2))
        self.check(((0,), (0,)), (1,), ("InvalidSums", 1))
        self.check([(at,) for at in range(5)], (4,), None)
        self.check(tuple((at,) for at in range(5)), (4,), None)

    def test_goals(self):
        for value in ANY_VALUES:
            if not is_plain_exponent(value, 1):
                self.check([(0,), (1,)], value, ("InvalidExponent", value))
                self.check([(at,) for at in range(5)], value, ("InvalidExponent", value))
                self.check([(0,), (0,)], value, ("InvalidSums", 1))

    def test_five_sums(self):
        sums = [(at,) for at in range(5)]
        self.assertEqual(raised_by(lower_bounds, COLUMN, sums, (5,)), ("TooMany", 5))
        self.assertIsNone(raised_by(upper_bounds, COLUMN, sums, (5,)))
        self.assertIsNone(raised_by(all_corners, COLUMN, sums, (5,)))
        self.assertIsNone(raised_by(lower_bounds, COLUMN, sums, (4,)))
        self.assertIsNone(raised_by(lower_bounds, COLUMN, sums[:4], (5,)))
        self.assertEqual(raised_by(lower_bounds, COLUMN, sums, (7,)), ("InvalidExponent", (7,)))

    def test_the_order_of_the_errors_of_base(self):
        dull = Schema("x", [((1,), (0,))])
        self.assertEqual(raised_by(base, dull, [(0,), (1,), (1,)]), ("InvalidSums", 2))
        self.assertEqual(raised_by(base, dull, [(0,), (1,), (2,)]), ("EqualSums", 1))
        self.assertEqual(raised_by(base, dull, []), ("InvalidSums", -1))


class ArgumentsTest(unittest.TestCase):
    def test_they_stay_and_may_be_named(self):
        sums = [(0,), (2,)]
        for call in (corners, upper_bounds, lower_bounds):
            self.assertEqual(list(call(goal=(1,), sums=sums, schema=COLUMN)), list(call(COLUMN, tuple(sums), (1,))))
            found = call(COLUMN, sums, (1,))
            if isinstance(found, list):
                found.clear()
            self.assertTrue(list(call(COLUMN, sums, (1,))))
        self.assertEqual(base(sums=sums, schema=COLUMN), base(COLUMN, tuple(sums)))
        claims = base(COLUMN, sums)
        self.assertEqual(combined(claims=claims, claim=claims[0]), combined(claims[0], claims))
        self.assertEqual([sums, claims], [[(0,), (2,)], base(COLUMN, sums)])


if __name__ == "__main__":
    unittest.main()
