"""Points [14] to [18] of the document, and dealtpowers/judging.py."""

import random
import unittest
from itertools import product
from math import gcd

from dealtpowers.claims import Claim, read_claim
from dealtpowers.errors import Boundless, Tight
from dealtpowers.judging import greatest_power, is_true, judge
from dealtpowers.papers import Dealt, Failing
from dealtpowers.products import Product
from dealtpowers.schemas import Schema
from dealtpowers.tables import Table
from questions import (balanced_claim, deals_out, fails_at, is_right_deal, kept_premises, plain_sides, random_claim,
                       random_product, random_schema, sides_at)
from samples import grouped, keeps, raised_by, random_facts, random_row, times

COLUMN = Schema("x")
MEAN = read_claim(COLUMN, "S[x]^2 <= S[] S[x2]")
LESS = read_claim(COLUMN, "S[x] <= S[x2]")
MORE = read_claim(COLUMN, "S[x2] <= S[x]")


def texts(schema, *lines):
    return [read_claim(schema, line) for line in lines]


class PaperTest(unittest.TestCase):
    """Checks what judge returns by the rules of the document alone."""

    def check(self, claims, premises):
        """Judges a question and checks the paper; returns what is told."""
        try:
            paper = judge(*claims, premises=premises)
        except Tight as error:
            turned = [premise.turned() for premise in premises]
            self.check_deal(error.paper, turned, [])
            return "tight"
        if paper.told() == "dealt":
            self.check_deal(paper, claims, premises)
        else:
            self.check_failing(paper, claims, premises)
        return paper.told()

    def check_deal(self, paper, claims, premises):
        self.assertIs(type(paper), Dealt)
        self.assertEqual([paper.claims(), paper.premises(), paper.holds()], [claims, premises, True])
        self.assertEqual([type(part) for part in (paper.weights(), paper.uses(), paper.lots())], [list] * 3)
        self.assertTrue(is_right_deal(claims, premises, paper.weights(), paper.uses(), paper.lots()))

    def check_failing(self, paper, claims, premises):
        self.assertIs(type(paper), Failing)
        self.assertEqual([paper.claims(), paper.premises(), paper.holds()], [claims, premises, True])
        groups = paper.groups()
        self.assertTrue(fails_at(claims, premises, paper.base, groups))
        base = 2
        while base < paper.base:
            self.assertFalse(fails_at(claims, premises, base, groups))
            base *= 2
        self.assertEqual(base, paper.base)
        self.assertTrue(paper.table().keeps(claims[0].schema))
        self.assertEqual([claim(paper.table()) for claim in claims + premises], [False] * len(claims) + [True] * len(premises))
        if not premises:
            self.assertLessEqual(len(groups), len(paper.small_sums()))


class JudgingTest(PaperTest):
    def test_questions_of_all_kinds(self):
        pick = random.Random(1)
        seen = {}
        for _ in range(1500):
            schema = random_schema(pick)
            most = pick.choice([1, 2, 3, 6])
            claims = [random_claim(pick, schema, 4, most) for _ in range(pick.choice([1, 1, 2, 3, 4]))]
            if pick.random() < .5:
                premises = [random_claim(pick, schema, 3, most) for _ in range(pick.randint(0, 4))]
            else:
                premises = kept_premises(pick, schema, pick.randint(1, 4), most)
            told = self.check(claims, premises), bool(premises)
            seen[told] = seen.get(told, 0) + 1
        self.assertGreater(min(seen.values()), 30)
        self.assertEqual(set(seen), {("dealt", False), ("failing", False), ("dealt", True), ("failing", True),
                                     ("tight", True)})

    def test_claims_that_fail_in_tables_of_several_groups_alone(self):
        pick = random.Random(13)
        seen = {}
        for _ in range(150):
            schema = random_schema(pick, 2)
            claims = [balanced_claim(pick, schema, pick.randint(1, 3)) for _ in range(pick.choice([1, 1, 2, 3]))]
            premises = kept_premises(pick, schema, pick.choice([0, 0, 1, 2]))
            told = self.check(claims, premises)
            if told == "failing":
                told = len(judge(*claims, premises=premises).groups())
                self.assertGreater(told, 1)
            seen[told] = seen.get(told, 0) + 1
        self.assertGreater(min(seen["dealt"], seen[2], seen[3]), 5, seen)

    def test_no_table_fails_where_there_is_a_deal(self):
        pick = random.Random(2)
        found = 0
        while found < 200:
            schema = random_schema(pick, 3, 2)
            claims = [random_claim(pick, schema, 3, 2, 2) for _ in range(pick.randint(1, 3))]
            premises = kept_premises(pick, schema, pick.randint(0, 2), 2)
            paper = judge(*claims, premises=premises)
            if not paper:
                continue
            found += 1
            used = [claim for claim, weight in zip(claims, paper.weights()) if weight > 0]
            for _ in range(30):
                rows = [row for row in (random_row(pick, schema.width, 6) for _ in range(4)) if keeps(row, schema.facts())]
                sides = [plain_sides(premise, rows) for premise in premises] if rows else [(1, 0)]
                if all(low <= high for low, high in sides):
                    self.assertTrue(any(low <= high for low, high in (plain_sides(claim, rows) for claim in used)))

    def test_claims_made_by_dealing(self):
        # Each small sum is covered by means of great ones.
        pick = random.Random(3)
        for _ in range(150):
            schema = random_schema(pick)
            high = random_product(pick, schema.width, pick.randint(1, 4), 6)
            low = Product(schema.width)
            for exponent, power in high.factors():
                other, more = pick.choice(high.factors())
                weights = [pick.randint(0, 2), pick.randint(1, 2)]
                shares = [weight * part for weight, part in zip(weights, (power, more))]
                mean = tuple((shares[0] * a + shares[1] * b) // sum(shares) for a, b in zip(exponent, other))
                low = low * Product(schema.width, [(mean, sum(shares))])
            # No power is dealt out more often than it is there four times.
            claim = Claim(schema, low, high.to_the(4 * len(high)))
            self.assertTrue(is_true(claim))
            self.assertEqual(self.check([claim], []), "dealt")

    def test_by_hand(self):
        plane = Schema("xy")
        bound = Schema("xy", [((2, 0), (0, 1))])
        for schema, line, wanted in (
                (COLUMN, "S[x]^2 <= S[] S[x2]", True), (COLUMN, "S[] S[x2] <= S[x]^2", False),
                (COLUMN, "S[x] <= S[x2]", True), (COLUMN, "S[x2] <= S[x]", False), (COLUMN, "S[x2] <= S[x]^2", True),
                (COLUMN, "S[x]^3 <= S[] S[x2]", False), (COLUMN, "1 <= S[]", True), (COLUMN, "S[] <= 1", False),
                (COLUMN, "1 <= 1", True), (COLUMN, "S[x] <= S[x]", True), (COLUMN, "S[x]^2 <= S[x]", False),
                (COLUMN, "S[x2]^2 <= S[x] S[x3]", True), (COLUMN, "S[x] S[x3] <= S[x2]^2", False),
                (plane, "S[x y]^2 <= S[y2] S[x2]", True), (plane, "S[y] S[x] <= S[] S[x y]", False),
                (plane, "S[x y] <= S[y] S[x]", True), (bound, "S[x]^2 <= S[] S[y]", True),
                (plane, "S[x]^2 <= S[] S[y]", False), (bound, "S[x4] <= S[y2]", True), (bound, "S[x4] <= S[y]", False),
                (Schema("xyz"), "S[x y z]^3 <= S[z3] S[y3] S[x3]", True)):
            claim = read_claim(schema, line)
            self.assertIs(is_true(claim), wanted, line)
            self.assertEqual(self.check([claim], []), "dealt" if wanted else "failing")

    def test_one_of_several_claims(self):
        one, other = texts(Schema("xy"), "S[x2] <= S[y2]", "S[y2] <= S[x2]")
        self.assertEqual([self.check([one], []), self.check([other], [])], ["failing"] * 2)
        self.assertEqual(self.check([one, other], []), "dealt")
        # One of two sums is at most their mean.
        pair = texts(Schema("xy"), "S[x2] <= S[x y]", "S[y2] <= S[x y]")
        self.assertEqual(self.check(pair, []), "failing")
        pair = texts(Schema("xy"), "S[x y] <= S[x2]", "S[x y] <= S[y2]")
        self.assertEqual(self.check(pair, []), "dealt")
        self.assertEqual([self.check([claim], []) for claim in pair], ["failing"] * 2)
        self.assertEqual(self.check([*pair, MORE_IN_PLANE, MORE_IN_PLANE], []), "dealt")

    def test_premises(self):
        plane = Schema("xy")
        premise = read_claim(plane, "S[x2] <= S[y]")
        claim = read_claim(plane, "S[x]^2 <= S[] S[y]")
        self.assertEqual([self.check([claim], []), self.check([claim], [premise])], ["failing", "dealt"])
        paper = judge(claim, premises=[premise])
        self.assertTrue(paper.uses()[0] > 0 and paper.premises() == [premise])
        self.assertEqual(self.check(texts(plane, "S[x]^3 <= S[] S[y]"), [premise]), "failing")
        self.assertEqual(self.check([claim], texts(plane, "S[y] <= S[x2]")), "failing")

    def test_tight_premises(self):
        self.assertEqual(self.check([LESS], [MORE]), "tight")
        self.assertEqual(self.check(texts(COLUMN, "S[x] <= S[]"), [MORE]), "tight")
        plane = Schema("xy")
        both = texts(plane, "S[x] <= S[y]", "S[y] <= S[x]")
        self.assertEqual(self.check(texts(plane, "S[x] <= S[y]"), both), "tight")
        self.assertEqual(self.check(texts(plane, "S[x] <= S[y]"), both[:1]), "dealt")
        # Each of three premises can be kept strictly, but not all together.
        ring = texts(Schema("xyz"), "S[x] <= S[y]", "S[y] <= S[z]", "S[z] <= S[x]")
        claim = texts(Schema("xyz"), "S[x] <= S[z]")
        self.assertEqual(self.check(claim, ring), "tight")
        self.assertEqual([self.check(claim, ring[:at] + ring[at + 1:]) for at in range(3)],
                         ["failing", "failing", "dealt"])
        # A premise whose two sides are equal in all tables is never kept strictly.
        self.assertEqual(self.check([LESS], texts(COLUMN, "S[x] <= S[x]")), "tight")
        self.assertEqual(self.check([LESS], texts(COLUMN, "1 <= S[]", "1 <= 1")), "tight")
        with self.assertRaises(Tight) as found:
            judge(LESS, premises=(MORE,))
        paper = found.exception.paper
        self.assertEqual([paper.claims(), paper.premises(), paper.uses(), paper.told()], [[LESS], [], [], "dealt"])

    def test_premises_that_can_be_kept_strictly_are_not_tight(self):
        pick = random.Random(4)
        for _ in range(150):
            schema = random_schema(pick)
            premises = kept_premises(pick, schema, 4)
            self.assertIn(self.check([random_claim(pick, schema, 3)], premises), ("dealt", "failing"))
            if premises:
                self.assertIn(self.check([premise.turned() for premise in premises], []), ("failing",))

    def test_claims_without_sums_on_a_side(self):
        pick = random.Random(5)
        for _ in range(100):
            schema = random_schema(pick)
            some, none = random_product(pick, schema.width, 3), Product(schema.width)
            self.assertEqual(self.check([Claim(schema, none, some)], []), "dealt")
            self.assertEqual(self.check([Claim(schema, some, none)], []), "failing" if some else "dealt")
            self.assertEqual(self.check([Claim(schema, some, none), Claim(schema, none, none)], []), "dealt")
            if some:
                self.assertEqual(self.check([Claim(schema, some, none)], [Claim(schema, none, some)]), "failing")
                self.assertEqual(self.check([Claim(schema, some, none)], [Claim(schema, some, none)]), "tight")

    def test_small_sums_that_nothing_covers(self):
        # The second claim needs two groups to fail, and no great sum has the column of the first one.
        for lines in (("S[x] <= S[]", "S[] S[y2] <= S[y]^2"), ("S[x]^9 <= S[]", "S[]^2 S[y3] <= S[y]^3"),
                      ("S[x2] <= S[]^5", "S[] S[x y2] <= S[y]^2")):
            self.assertEqual(self.check(texts(Schema("xy"), *lines), []), "failing")
            self.assertEqual(self.check(texts(Schema("xyz", [((0, 0, 1), (1, 0, 0))]), *lines), []), "failing")
        pair = texts(Schema("xyz"), "S[z] S[y] <= S[] S[y]", "S[] S[y2] <= S[y]^2")
        self.assertEqual(self.check(pair, texts(Schema("xyz"), "S[x] <= S[y]^2")), "failing")

    def test_facts_without_rays(self):
        # All rows are rows of ones, so all sums are equal.
        for facts in ([((1,), (0,))], [((2,), (1,)), ((0,), (0,))]):
            schema = Schema("x", facts)
            for line, wanted in (("S[x6] <= S[]", "dealt"), ("S[x6]^2 <= S[]", "failing"), ("S[] <= S[x]", "dealt")):
                self.assertEqual(self.check(texts(schema, line), []), wanted)

    def test_errors(self):
        # Those of wrong claims and premises are tested with the papers.
        self.assertEqual(raised_by(judge), ("InvalidClaim", -1))
        self.assertEqual(raised_by(judge, premises=[MORE]), ("InvalidClaim", -1))
        self.assertEqual(raised_by(judge, [MEAN]), ("InvalidClaim", 0))
        other = read_claim(Schema("y"), "S[y2] <= S[y]")
        self.assertEqual(raised_by(judge, MEAN, premises=[MORE, other]), ("WrongSchema", 1))
        self.assertEqual(raised_by(judge, MEAN, premises=[MORE, None]), ("InvalidClaim", 1))
        with self.assertRaises(TypeError):
            judge(MEAN, claims=[MEAN])

    def test_equal_calls(self):
        pick = random.Random(6)
        for _ in range(60):
            schema = random_schema(pick)
            claims = [random_claim(pick, schema, 4) for _ in range(2)]
            premises = kept_premises(pick, schema, 2)
            given = list(premises)
            one, other = judge(*claims, premises=premises), judge(*claims, premises=tuple(premises))
            self.assertEqual(premises, given)
            self.assertEqual(one.told(), other.told())
            if one:
                self.assertEqual([one.weights(), one.uses(), one.lots()], [other.weights(), other.uses(), other.lots()])
            else:
                self.assertEqual([one.base, one.groups()], [other.base, other.groups()])


MORE_IN_PLANE = read_claim(Schema("xy"), "S[x2] <= S[x]")


class BoundsTest(PaperTest):
    """Inputs at the bounds."""

    def test_products_of_twelve_sums(self):
        pick = random.Random(7)
        for seed in range(12):
            schema = random_schema(pick, 4, 6)
            if schema.width > 1:
                low, high = (random_product(pick, schema.width, 12, 6, 9) for _ in range(2))
                for claim in (Claim(schema, low, high), Claim(schema, high, low), Claim(schema, low, high ** 3)):
                    self.check([claim], [])

    def test_four_claims_under_four_premises(self):
        pick = random.Random(8)
        told = set()
        for _ in range(25):
            schema = Schema("xyz", random_facts(pick, 3, 4, pick.choice([2, 6])))
            claims = [random_claim(pick, schema, 4, 6) for _ in range(4)]
            told.add(self.check(claims, kept_premises(pick, schema, 4, 6)))
            told.add(self.check(claims, [random_claim(pick, schema, 4, 6) for _ in range(4)]))
        self.assertEqual(told, {"dealt", "failing", "tight"})

    def test_all_at_once(self):
        pick = random.Random(33)
        told = set()
        for _ in range(8):
            schema = Schema("xyz", random_facts(pick, 3, 4, pick.choice([2, 6])))
            claims = [Claim(schema, *(random_product(pick, 3, 12, 6, 9) for _ in range(2))) for _ in range(4)]
            told.add(self.check(claims, kept_premises(pick, schema, 4, 6, 12)))
        self.assertEqual(told, {"dealt", "failing"})

    def test_powers_of_60_digits(self):
        big = 10 ** 60 - 1
        for low, high, wanted in (({1: big}, {2: big}, True), ({2: big}, {1: big}, False),
                                  ({1: big - 1}, {0: big // 2, 2: big // 2}, True), ({1: big, 0: 1}, {2: big}, False),
                                  ({1: 10 ** 59 * 2 + 1}, {0: 10 ** 59, 2: 10 ** 59}, False)):
            claim = Claim(COLUMN, *(Product(1, [((at,), power) for at, power in side.items()]) for side in (low, high)))
            self.assertIs(is_true(claim), wanted)
            paper = judge(claim)
            self.assertEqual([bool(paper), paper.holds()], [wanted, True])

    def test_tables_that_must_be_very_long(self):
        # At the powers 2, 2, 2, 4 of the base all that is true of these sums is met equally, and there two equal
        # terms make S[x2] twice as much. So the base must make up for a great power of 2.
        for size in (1, 2, 3, 16, 100, 2 ** 10, 2 ** 20, 10 ** 18, 2 ** 60, 10 ** 59):
            low = Product(1, [((1,), 2 * size), ((4,), 2 * size), ((0,), 1)])
            claim = Claim(COLUMN, low, Product(1, [((2,), 6 * size)]))
            paper = judge(claim)
            self.assertEqual([paper.told(), paper.holds()], ["failing", True])
            if size <= 100:
                self.check([claim], [])
            half = Failing([claim], [], paper.base // 2, paper.groups())
            self.assertFalse(half.holds())
            self.assertEqual(greatest_power(claim), (6 * size, 6 * size + 1))


class GreatestPowerTest(unittest.TestCase):
    def test_it_is_the_greatest(self):
        pick = random.Random(9)
        seen = set()
        for _ in range(300):
            claim = random_claim(pick, random_schema(pick), 4, pick.choice([2, 6]))
            if not claim.low:
                self.assertEqual(raised_by(greatest_power, claim), ("Boundless",))
                continue
            top, bottom = greatest_power(claim)
            self.assertTrue(is_true(self.powered(claim, top, bottom)))
            self.assertTrue(is_true(self.powered(claim, 9 * top // 10, bottom)))
            self.assertFalse(is_true(self.powered(claim, 1000 * top + 1, 1000 * bottom)))
            self.assertEqual(is_true(claim), top >= bottom)
            seen.add((top > 0) + (top > bottom))
            self.assertEqual([type(top), type(bottom)], [int, int])
            self.assertEqual([gcd(top, bottom), bottom >= 1], [1, True])
        self.assertEqual(seen, {0, 1, 2})

    def powered(self, claim, top, bottom):
        return Claim(claim.schema, claim.low ** top, claim.high ** bottom)

    def test_by_hand(self):
        for line, wanted in (("S[x3] <= S[x2]^2", (4, 3)), ("S[x] <= S[]", (0, 1)), ("S[x] <= 1", (0, 1)),
                             ("S[] <= S[x]", (1, 1)), ("S[x]^2 <= S[] S[x2]", (1, 1)), ("S[x]^4 <= S[] S[x2]", (1, 2)),
                             ("S[] <= S[x]^7", (7, 1)), ("S[x2]^3 <= S[x]^2", (1, 3)), ("S[x] <= S[x]^5", (5, 1))):
            self.assertEqual(greatest_power(read_claim(COLUMN, line)), wanted, line)
        bound = Schema("xy", [((2, 0), (0, 1))])
        self.assertEqual(greatest_power(read_claim(bound, "S[x] <= S[y]")), (1, 1))
        self.assertEqual(greatest_power(read_claim(bound, "S[x]^2 <= S[] S[y]")), (1, 1))
        self.assertEqual(greatest_power(read_claim(Schema("x", [((1,), (0,))]), "S[x6] <= S[]")), (1, 1))
        for line in ("1 <= S[x]", "1 <= 1"):
            with self.assertRaises(Boundless):
                greatest_power(read_claim(COLUMN, line))

    def test_long_powers(self):
        big = 10 ** 60 - 1
        claim = Claim(COLUMN, Product(1, [((3,), big)]), Product(1, [((2,), big - 1)]))
        top, bottom = greatest_power(claim)
        self.assertEqual(gcd(top, bottom), 1)
        self.assertEqual(top * 3 * big, bottom * 2 * (big - 1))

    def test_by_all_tables_of_few_groups(self):
        # The least quotient over tables of groups with small numbers is never below the greatest power.
        pick = random.Random(10)
        groups = [(count, (part,)) for count, part in product(range(4), range(3))]
        for _ in range(40):
            claim = random_claim(pick, COLUMN, 3)
            if claim.low:
                top, bottom = greatest_power(claim)
                for one, other in product(groups, repeat=2):
                    reach = [sum(power * max(count + times(way, exponent) for count, way in (one, other))
                                 for exponent, power in side.factors()) for side in (claim.low, claim.high)]
                    self.assertLessEqual(top * reach[0], reach[1] * bottom)


class AgreementTest(unittest.TestCase):
    def test_is_true_and_judge(self):
        pick = random.Random(11)
        for _ in range(300):
            claim = random_claim(pick, random_schema(pick), 4)
            paper = judge(claim)
            self.assertIs(is_true(claim), bool(paper))
            if not paper:
                low, high = sides_at(claim, paper.base, paper.groups())
                self.assertGreater(low, high)
            else:
                self.assertTrue(deals_out([claim], [], paper.weights(), [], paper.lots()))

    def test_equal_rows_in_other_groups(self):
        # What fails in groups fails in the table of their rows.
        paper = judge(MORE)
        rows = [row for count, row in paper.table().groups() for _ in range(count)]
        low, high = plain_sides(MORE, rows)
        self.assertGreater(low, high)
        self.assertEqual(Table(1, grouped(rows)), paper.table())


if __name__ == "__main__":
    unittest.main()
