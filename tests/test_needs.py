"""dealtpowers/needs.py, and what points [4], [6], [10] and [19] say about it."""

import copy
import random
import unittest
from itertools import combinations

from dealtpowers.claims import Claim, read_claim
from dealtpowers.corners import corners
from dealtpowers.judging import is_true
from dealtpowers.needs import difference, least_facts, least_lots
from dealtpowers.schemas import Schema
from questions import random_claim, random_schema
from samples import ANY_VALUES, box, fits, is_plain_exponent, keeps, raised_by, random_exponent, random_facts

PLANE = Schema("xy")


def least_of(many, is_enough):
    """The least lots that are enough, by trying all lots; short ones first."""
    lots = [lot for size in range(many + 1) for lot in combinations(range(many), size) if is_enough(lot)]
    return [lot for lot in lots if not any(set(other) < set(lot) for other in lots)]


class DifferenceTest(unittest.TestCase):
    def check(self, one, other):
        found = difference(one, other)
        if found is None:
            self.assertTrue(all(one.follows(*fact) for fact in other.facts()))
            self.assertTrue(all(other.follows(*fact) for fact in one.facts()))
            for row in box(one.width, 1, 4 if one.width == 3 else 9):
                self.assertEqual(keeps(row, one.facts()), keeps(row, other.facts()))
        else:
            at, direction = found
            pair = [one, other] if at == 0 else [other, one]
            self.assertEqual([type(found), type(direction)], [tuple, tuple])
            self.assertTrue(fits(direction, pair[0].facts()))
            self.assertFalse(fits(direction, pair[1].facts()))
            self.assertEqual(at, 0 if not all(one.follows(*fact) for fact in other.facts()) else 1)
            row = tuple(2 ** part for part in direction)
            self.assertEqual([row in pair[0], row in pair[1]], [True, False])
        return found if found is None else found[0]

    def test_random_schemas(self):
        pick = random.Random(1)
        seen = []
        for _ in range(400):
            one = random_schema(pick, 3)
            facts = one.facts()
            pick.shuffle(facts)
            if pick.random() < .5:
                facts = facts[1:]
            if pick.random() < .5:
                facts = facts + random_facts(pick, one.width, 1, 2)
            seen.append(self.check(one, Schema(one.columns, facts)))
        self.assertGreater(min(seen.count(None), seen.count(0), seen.count(1)), 40)

    def test_the_same_rows_written_in_another_way(self):
        for one, other in (([((1, 0), (0, 1))], [((2, 0), (0, 2))]), ([((1, 0), (0, 1))], [((1, 1), (0, 2))]),
                           ([((1, 0), (0, 1))] * 4, [((1, 0), (0, 1))]), ([], [((1, 0), (1, 1))]),
                           ([((2, 0), (0, 1))], [((2, 0), (0, 1)), ((1, 0), (0, 1))])):
            self.assertIsNone(difference(Schema("xy", one), Schema("xy", other)))
            self.assertIsNone(difference(Schema("xy", other), Schema("xy", one)))

    def test_more_rows(self):
        some, all_rows = Schema("xy", [((2, 0), (0, 1))]), PLANE
        self.assertEqual([self.check(some, all_rows), self.check(all_rows, some)], [1, 0])
        wide = Schema("xy", [((1, 0), (0, 1))])
        self.assertEqual([self.check(some, wide), self.check(wide, some)], [1, 0])
        # With more rows on both sides the direction is one of the first.
        turned = Schema("xy", [((0, 1), (1, 0))])
        self.assertEqual([self.check(wide, turned), self.check(turned, wide)], [0, 0])
        self.assertEqual(self.check(Schema("x", [((1,), (0,))]), Schema("x")), 1)

    def test_other_columns(self):
        for other in ("yx", "x", "xyz", "ab"):
            self.assertEqual(raised_by(difference, PLANE, Schema(other)), ("InvalidColumns", other))
            self.assertEqual(raised_by(difference, Schema(other), PLANE), ("InvalidColumns", "xy"))
        self.assertIsNone(difference(other=Schema("xy"), one=PLANE))


class LeastFactsTest(unittest.TestCase):
    def test_all_lots(self):
        pick = random.Random(2)
        seen = set()
        for _ in range(150):
            schema = random_schema(pick, 4, 2)
            claim = random_claim(pick, schema, 2, 2)
            facts = schema.facts()
            wanted = least_of(len(facts), lambda lot: is_true(
                Claim(Schema(schema.columns, [facts[at] for at in lot]), claim.low, claim.high)))
            self.assertEqual(least_facts(claim), wanted)
            self.assertEqual(wanted == [], not is_true(claim))
            seen |= {len(wanted), -len(wanted[0]) if wanted else 0}
        self.assertTrue({0, 1, 2, -1, -2} <= seen)

    def test_by_hand(self):
        low, high = ((1, 0), (0, 1)), ((2, 0), (0, 1))
        schema = Schema("xy", [low, high])
        self.assertEqual(least_facts(read_claim(schema, "S[x] <= S[y]")), [(0,), (1,)])
        self.assertEqual(least_facts(read_claim(schema, "S[x2] <= S[y]")), [(1,)])
        self.assertEqual(least_facts(read_claim(schema, "S[x] <= S[x2]")), [()])
        self.assertEqual(least_facts(read_claim(schema, "S[y] <= S[x]")), [])
        self.assertEqual(least_facts(read_claim(Schema("xy"), "S[] <= S[x]")), [()])
        self.assertEqual(least_facts(read_claim(Schema("xy"), "S[x] <= S[]")), [])
        chain = Schema("xyz", [((0, 1, 0), (0, 0, 1)), ((0, 0, 0), (0, 0, 0)), ((1, 0, 0), (0, 1, 0)), ((1, 0, 0), (0, 0, 1))])
        self.assertEqual(least_facts(claim=read_claim(chain, "S[x] <= S[z]")), [(3,), (0, 2)])


class LeastLotsTest(unittest.TestCase):
    def test_all_lots(self):
        pick = random.Random(3)
        seen = set()
        for _ in range(120):
            schema = random_schema(pick, 3, 2)
            pool = sorted({random_exponent(pick, schema.width, 2) for _ in range(pick.randint(1, 5))},
                          key=lambda _: pick.random())
            goals = [pick.choice([*pool, random_exponent(pick, schema.width, 2)]) for _ in range(pick.randint(1, 3))]

            def is_enough(lot):
                return lot != () and all(list(corners(schema, [pool[at] for at in lot], goal)) for goal in goals)

            wanted = least_of(len(pool), is_enough)
            self.assertEqual(least_lots(schema, pool, goals), wanted)
            self.assertEqual(least_lots(schema, tuple(pool), tuple(goals)), wanted)
            seen |= {len(wanted), -len(wanted[-1]) if wanted else 0}
        self.assertTrue({0, 1, 2, 3, -1, -2} <= seen)

    def test_by_hand(self):
        pool = [(2, 0), (0, 1), (1, 1)]
        self.assertEqual(least_lots(PLANE, pool, [(1, 1)]), [(2,), (0, 1)])
        self.assertEqual(least_lots(PLANE, pool, [(1, 1), (1, 1)]), [(2,), (0, 1)])
        self.assertEqual(least_lots(PLANE, pool, [(0, 0)]), [(0,), (1,), (2,)])
        self.assertEqual(least_lots(PLANE, [(2, 0)], [(0, 1)]), [])
        self.assertEqual(least_lots(PLANE, [(0, 0), (3, 0)], [(0, 0), (1, 0)]), [(1,)])
        self.assertEqual(least_lots(Schema("x", [((1,), (0,))]), [(0,), (3,)], [(6,)]), [(0,), (1,)])

    def test_errors(self):
        good = [(1, 0)]
        for value in ANY_VALUES:
            if not isinstance(value, (list, tuple)):
                self.assertEqual(raised_by(least_lots, PLANE, value, None), ("InvalidSums", -1))
                self.assertEqual(raised_by(least_lots, PLANE, good, value), ("InvalidSums", -1))
            if not is_plain_exponent(value, 2):
                self.assertEqual(raised_by(least_lots, PLANE, [(0, 0), value], None), ("InvalidSums", 1))
                self.assertEqual(raised_by(least_lots, PLANE, good, [(0, 0), (0, 0), value, value]), ("InvalidSums", 2))
        for value in ([], (), [(0, at) for at in range(6)], [None] * 60):
            self.assertEqual(raised_by(least_lots, PLANE, value, None), ("InvalidSums", -1))
            self.assertEqual(raised_by(least_lots, PLANE, good, value), ("InvalidSums", -1))
        self.assertEqual(raised_by(least_lots, PLANE, [(0, 1), (0, 0), (0, 1)], [None]), ("InvalidSums", 2))
        self.assertIsNone(raised_by(least_lots, PLANE, [(0, at) for at in range(5)], [(0, at) for at in range(5)]))

    def test_arguments_and_results(self):
        pool, goals = [(2, 0), (0, 1)], [(1, 1)]
        before = copy.deepcopy([pool, goals])
        least_lots(goals=goals, pool=pool, schema=PLANE).clear()
        self.assertEqual([pool, goals, least_lots(PLANE, pool, goals)], [*before, [(0, 1)]])


if __name__ == "__main__":
    unittest.main()
