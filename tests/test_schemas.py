"""Schemas: columns, facts, rows, directions and rays."""

import random
import unittest

from dealtpowers.errors import InvalidColumns, InvalidExponent, InvalidFact, TooMany
from dealtpowers.schemas import Schema
from dealtpowers.systems import solve
from samples import (ANY_VALUES, OBJECTS, PLAIN, box, fits, is_plain_exponent, is_plain_fact, is_ray, is_tuple_of, keeps,
                     raised_by, random_exponent, random_facts, rays_in, times, worth)

WORDS = ["x", "xy", "xyz", "zax", "ba", "q"]
NO_COLUMNS = [item for item in ANY_VALUES if item not in ("x",)] + [
    "xx", "xyx", "xyy", "abcd", "X", "xY", "x1", "x y", "x ", " x", "xy\n", "x_", "_", "aa", ("x",), ["x", "y"],
    "{", "`", "@", "[", "\u00e9", "\u00df", "x\u00e9"]


class ColumnsTest(unittest.TestCase):
    def test_right_ones(self):
        for columns in WORDS + list("abcdefghijklmnopqrstuvwxyz"):
            schema = Schema(columns)
            self.assertEqual([schema.columns, schema.width, schema.facts()], [columns, len(columns), []])
            self.assertEqual(repr(schema), f"Schema({columns}, 0 facts)")

    def test_wrong_ones(self):
        for columns in NO_COLUMNS:
            with self.assertRaises(InvalidColumns) as caught:
                Schema(columns)
            self.assertEqual(caught.exception.given, columns)
            self.assertIs(type(caught.exception.given), type(columns))

    def test_most(self):
        self.assertEqual(Schema.MOST, 4)
        self.assertEqual(Schema("xy").MOST, 4)


class FactsTest(unittest.TestCase):
    def test_up_to_four(self):
        for many in range(5):
            facts = [((at,), (6,)) for at in range(many)]
            for given in (facts, tuple(facts)):
                schema = Schema("x", given)
                self.assertEqual(schema.facts(), facts)
                self.assertIs(type(schema.facts()), list)
                self.assertEqual(repr(schema), f"Schema(x, {many} facts)")

    def test_more_than_four(self):
        for many in (5, 6, 60):
            with self.assertRaises(TooMany) as caught:
                Schema("x", [((1,), (2,))] * many)
            self.assertEqual(caught.exception.most, 4)

    def test_equal_facts_stay(self):
        facts = [((1, 0), (0, 1)), ((1, 0), (0, 1)), ((0, 1), (1, 0)), ((2, 2), (2, 2))]
        self.assertEqual(Schema("xy", facts).facts(), facts)

    def test_no_lists(self):
        for facts in ANY_VALUES:
            if type(facts) not in (list, tuple):
                self.assertEqual(raised_by(Schema, "x", facts), ("InvalidFact", -1))
                self.assertEqual(raised_by(Schema, columns="x", facts=facts), ("InvalidFact", -1))

    def test_wrong_facts(self):
        good = ((1,), (2,))
        for wrong in ANY_VALUES:
            if not is_plain_fact(wrong, 1):
                self.assertEqual(raised_by(Schema, "x", [wrong]), ("InvalidFact", 0), wrong)
                self.assertEqual(raised_by(Schema, "x", (good, wrong, wrong)), ("InvalidFact", 1), wrong)
                with_side = raised_by(Schema, "x", [(good[0], wrong)])
                self.assertEqual(with_side, None if is_plain_exponent(wrong, 1) else ("InvalidFact", 0), wrong)

    def test_wrong_facts_of_two_columns(self):
        for wrong in (((1, 0), (0,)), ((1,), (0, 1)), ((1, 0, 0), (0, 1, 0)), ((1, 0), (0, 7)), ((-1, 0), (0, 1)),
                      ((1, 0), (0, True)), ([1, 0], (0, 1)), ((1, 0), [0, 1]), [(1, 0), (0, 1)], ((1, 0),),
                      ((1, 0), (0, 1), (0, 1)), ((1, 0), (0, "1")), ((1, 0), (0, None)), (1, 0)):
            self.assertEqual(raised_by(Schema, "xy", [wrong]), ("InvalidFact", 0), wrong)
        self.assertIsNone(raised_by(Schema, "xy", [((0, 0), (6, 6))]))

    def test_order_of_errors(self):
        self.assertEqual(raised_by(Schema, "xx", None), ("InvalidColumns", "xx"))
        self.assertEqual(raised_by(Schema, "xx", [None] * 5), ("InvalidColumns", "xx"))
        self.assertEqual(raised_by(Schema, None, [((1,), (2,))] * 5), ("InvalidColumns", None))
        good = ((1,), (2,))
        self.assertEqual(raised_by(Schema, "x", [good] * 5 + [None]), ("InvalidFact", 5))
        self.assertEqual(raised_by(Schema, "x", [good] * 4 + [None, True]), ("InvalidFact", 4))
        self.assertEqual(raised_by(Schema, "x", [good] * 5), ("TooMany", 4))

    def test_what_is_passed_and_returned_may_change(self):
        facts = [((1,), (2,))]
        schema = Schema("x", facts)
        facts.append(((2,), (3,)))
        facts[0] = None
        schema.facts().append(3)
        schema.rays().append(3)
        self.assertEqual([schema.facts(), schema.rays(), repr(schema)], [[((1,), (2,))], [(1,)], "Schema(x, 1 facts)"])


class RowsTest(unittest.TestCase):
    def test_without_facts(self):
        for wide, word in ((1, "x"), (2, "xy"), (3, "xyz")):
            for value in PLAIN + OBJECTS + [(10 ** 60,) * wide, (1,) * wide, [1] * wide, (0,) * wide, "x" * wide]:
                self.assertIs(value in Schema(word), is_tuple_of(value, wide, 1, 10 ** 60), value)
        self.assertIs((1, 2, 0) in Schema("xyz"), False)
        self.assertIs((1, True) in Schema("xy"), False)

    def test_against_plain_arithmetic(self):
        pick = random.Random(21)
        for _ in range(120):
            width = pick.randint(1, 3)
            facts = random_facts(pick, width, pick.randint(1, 4), pick.choice([1, 2, 6]))
            schema = Schema("xyz"[:width], facts)
            for row in box(width, 1, 4):
                self.assertIs(row in schema, keeps(row, facts), (facts, row))
            self.assertIs((1,) * width in schema, True)

    def test_facts_at_their_very_bound(self):
        schema = Schema("xy", [((2, 0), (0, 1))])
        most = 10 ** 60 - 1
        for number in (1, 2, 7, most):
            self.assertIs((number, number ** 2) in schema, True)
            self.assertIs((number, number ** 2 + 1) in schema, True)
            self.assertIs((number, number ** 2 - 1) in schema, False)
        self.assertIs((most,) * 3 in Schema("xyz", [((6, 6, 6), (6, 6, 5))]), False)
        self.assertIs((most,) * 3 in Schema("xyz", [((6, 6, 5), (5, 6, 6))]), True)


class ExponentsTest(unittest.TestCase):
    def test_is_exponent(self):
        for wide in (1, 2, 3):
            schema = Schema("xyz"[:wide], [((6,) * wide, (0,) * wide)])
            for value in ANY_VALUES + [(0,) * wide, (6,) * wide, (7,) + (0,) * (wide - 1), (0,) * (wide - 1) + (-1,),
                                       (0,) * (wide - 1) + (7,), (10 ** 60,) * wide, [0] * wide]:
                self.assertIs(schema.is_exponent(value), is_plain_exponent(value, wide), value)
                self.assertIs(schema.is_exponent(value=value), is_plain_exponent(value, wide), value)

    def test_fits_without_facts(self):
        for wide in (1, 2, 3):
            for value in ANY_VALUES + [(0,) * wide, (6,) * wide, (7,) * wide, (10 ** 60,) * wide, [0] * wide,
                                       (0,) * (wide - 1) + (-1,)]:
                self.assertIs(Schema("xyz"[:wide]).fits(value), is_tuple_of(value, wide, 0, 10 ** 60), value)

    def test_fits_with_facts(self):
        pick = random.Random(22)
        for _ in range(100):
            width = pick.randint(1, 3)
            facts = random_facts(pick, width, pick.randint(1, 4), pick.choice([1, 2, 6]))
            schema = Schema("xyz"[:width], facts)
            for direction in box(width, 0, 4):
                self.assertIs(schema.fits(direction), fits(direction, facts), (facts, direction))
                far = tuple(part * 10 ** 58 for part in direction)
                self.assertIs(schema.fits(far), fits(direction, facts), (facts, far))
            self.assertIs(schema.fits([0] * width), False)
            self.assertIs(schema.fits((0,) * (width + 1)), False)

    def test_a_fitting_direction_gives_rows(self):
        facts = [((2, 0), (0, 1)), ((0, 1), (4, 0))]
        schema = Schema("xy", facts)
        for direction in box(2, 0, 9):
            rows = [tuple(base ** part for part in direction) for base in (1, 2, 3)]
            self.assertEqual(schema.fits(direction), all(row in schema for row in rows))


class RaysTest(unittest.TestCase):
    def test_no_facts(self):
        self.assertEqual(Schema("x").rays(), [(1,)])
        self.assertEqual(Schema("xy").rays(), [(0, 1), (1, 0)])
        self.assertEqual(Schema("xyz").rays(), [(0, 0, 1), (0, 1, 0), (1, 0, 0)])

    def test_some_by_hand(self):
        for columns, facts, rays in (
                ("x", [((1,), (2,))], [(1,)]),
                ("x", [((2,), (2,))], [(1,)]),
                ("x", [((2,), (1,))], []),
                ("x", [((1,), (0,))] * 4, []),
                ("xy", [((2, 0), (0, 1))], [(0, 1), (1, 2)]),
                ("xy", [((2, 0), (0, 1))] * 4, [(0, 1), (1, 2)]),
                ("xy", [((0, 1), (2, 0))], [(1, 0), (1, 2)]),
                ("xy", [((1, 0), (0, 1)), ((0, 1), (1, 0))], [(1, 1)]),
                ("xy", [((6, 0), (0, 5)), ((0, 5), (6, 0))], [(5, 6)]),
                ("xy", [((1, 0), (0, 0))], [(0, 1)]),
                ("xy", [((1, 1), (0, 0))], []),
                ("xy", [((2, 0), (0, 1)), ((0, 1), (1, 0))], []),
                ("xy", [((1, 0), (1, 0)), ((0, 0), (0, 0))], [(0, 1), (1, 0)]),
                ("xyz", [((1, 0, 0), (0, 1, 0)), ((0, 1, 0), (0, 0, 1)), ((0, 0, 1), (1, 0, 0))], [(1, 1, 1)]),
                ("xyz", [((1, 0, 0), (0, 1, 0)), ((0, 1, 0), (0, 0, 1))], [(0, 0, 1), (0, 1, 1), (1, 1, 1)]),
                ("xyz", [((1, 1, 1), (0, 0, 0))], []),
                ("xyz", [((0, 0, 2), (1, 1, 0))], [(0, 1, 0), (0, 2, 1), (1, 0, 0), (2, 0, 1)]),
                ("xyz", [((1, 1, 0), (0, 0, 0))], [(0, 0, 1)]),
                ("xyz", [((6, 0, 1), (0, 6, 0)), ((0, 6, 0), (6, 0, 1)), ((0, 0, 6), (5, 0, 0)),
                         ((5, 0, 0), (0, 0, 6))], [(36, 41, 30)])):
            self.assertEqual(Schema(columns, facts).rays(), rays, (columns, facts))
            self.assertEqual(Schema(columns, facts[::-1]).rays(), rays, (columns, facts))

    def test_against_all_small_directions(self):
        # With exponents up to 2 no ray of three columns has a number above 8; with two columns none above the highest.
        pick = random.Random(23)
        for _ in range(150):
            facts = random_facts(pick, 3, pick.randint(0, 4), 2)
            self.assertEqual(Schema("xyz", facts).rays(), rays_in(3, facts, 8), facts)
            facts = random_facts(pick, 2, pick.randint(0, 4), 6)
            self.assertEqual(Schema("xy", facts).rays(), rays_in(2, facts, 6), facts)
            facts = random_facts(pick, 1, pick.randint(0, 4), 6)
            self.assertEqual(Schema("x", facts).rays(), rays_in(1, facts, 2), facts)

    def test_turned_facts(self):
        pick = random.Random(24)
        for _ in range(80):
            facts = random_facts(pick, 3, 2, 2)
            facts += [(high, low) for low, high in facts]
            self.assertEqual(Schema("xyz", facts).rays(), rays_in(3, facts, 8), facts)

    def test_all_directions_are_sums_of_rays(self):
        pick = random.Random(25)
        for _ in range(200):
            facts = random_facts(pick, 3, pick.randint(1, 4))
            schema = Schema("xyz", facts)
            rays = schema.rays()
            self.assertEqual(rays, sorted(set(rays)))
            for ray in rays:
                self.assertTrue(is_ray(ray, facts), (facts, ray))
                self.assertTrue(schema.fits(ray))
            for direction in [random_exponent(pick, 3, 12) for _ in range(4)]:
                rows = [[ray[at] for ray in rays] or [0] for at in range(3)]
                turned = [[-part for part in row] for row in rows]
                found = solve(rows + turned, [*direction, *[-part for part in direction]])
                self.assertIs(bool(found), schema.fits(direction), (facts, direction))


class FollowsTest(unittest.TestCase):
    def check(self, schema, low, high):
        """Tests the reason of a pair by the arithmetic of the document; tells whether the pair follows."""
        found = schema.reason(low, high)
        self.assertEqual(found, schema.reason(low=low, high=high))
        self.assertIs(type(found), tuple)
        follows, scale, told = found
        self.assertIs(schema.follows(low, high), follows)
        self.assertIs(type(told), tuple)
        self.assertTrue(all(type(number) is int and number >= 0 for number in (scale, *told)))
        if not follows:
            self.assertIs(type(scale), int)
            self.assertEqual(scale, 0)
            self.assertTrue(len(told) == schema.width and fits(told, schema.facts()))
            self.assertGreater(times(told, low), times(told, high))
            row = tuple(2 ** part for part in told)
            self.assertTrue(row in schema and worth(row, low) > worth(row, high))
            return False
        self.assertIs(follows, True)
        self.assertGreaterEqual(scale, 1)
        self.assertEqual(len(told), len(schema.facts()))
        for at in range(schema.width):
            given = sum(cover * (more[at] - less[at]) for cover, (less, more) in zip(told, schema.facts()))
            self.assertGreaterEqual(scale * (high[at] - low[at]) - given, 0, (schema.facts(), low, high, found))
        return True

    def test_by_hand(self):
        schema = Schema("xy", [((2, 0), (0, 1))])
        for low, high, follows in (((1, 0), (0, 1), True), ((2, 0), (0, 1), True), ((3, 0), (0, 1), False),
                                   ((3, 0), (0, 2), True), ((0, 1), (2, 0), False), ((0, 0), (0, 0), True),
                                   ((0, 0), (6, 6), True), ((6, 6), (0, 0), False), ((6, 0), (0, 3), True),
                                   ((6, 1), (0, 3), False), ((6, 1), (0, 4), True), ((1, 1), (1, 1), True)):
            self.assertIs(self.check(schema, low, high), follows, (low, high))

    def test_without_facts(self):
        for columns in ("x", "xy"):
            schema = Schema(columns)
            for low in box(schema.width, 0, 3):
                for high in box(schema.width, 0, 3):
                    self.assertIs(self.check(schema, low, high), all(a <= b for a, b in zip(low, high)))
                    if schema.follows(low, high):
                        self.assertEqual(schema.reason(low, high)[2], ())

    def test_only_the_row_of_ones(self):
        schema = Schema("xy", [((1, 1), (0, 0))])
        for low in box(2, 0, 6):
            self.assertTrue(self.check(schema, low, (0, 0)))

    def test_many(self):
        pick = random.Random(26)
        seen = set()
        for _ in range(400):
            width = pick.randint(1, 3)
            facts = random_facts(pick, width, pick.randint(0, 4), pick.choice([2, 6]))
            schema = Schema("xyz"[:width], facts)
            for _ in range(4):
                low, high = random_facts(pick, width, 1, pick.choice([2, 6]))[0]
                follows = self.check(schema, low, high)
                seen.add((width, follows))
                if follows:
                    for row in box(width, 1, 4 if width == 3 else 7):
                        self.assertTrue(not keeps(row, facts) or worth(row, low) <= worth(row, high), (facts, low, high))
        self.assertEqual(len(seen), 6)

    def test_own_facts_follow(self):
        pick = random.Random(27)
        for _ in range(60):
            facts = random_facts(pick, 3, 4)
            schema = Schema("xyz", facts)
            for low, high in facts:
                self.assertTrue(self.check(schema, low, high))

    def test_wrong_exponents(self):
        schema = Schema("x", [((1,), (2,))])
        for call in (schema.follows, schema.reason, schema.equal_sums):
            for wrong in ANY_VALUES + [(7,), (-1,), (1, 1), [1]]:
                if not is_plain_exponent(wrong, 1):
                    for arguments in ((wrong, (1,)), ((1,), wrong), (wrong, None), (wrong, (7,))):
                        with self.assertRaises(InvalidExponent) as caught:
                            call(*arguments)
                        self.assertEqual(caught.exception.given, wrong)
                        self.assertIs(type(caught.exception.given), type(wrong))
            self.assertEqual(raised_by(call, (8,), (9,)), ("InvalidExponent", (8,)))


class EqualSumsTest(unittest.TestCase):
    def test_by_hand(self):
        same = Schema("xy", [((1, 0), (0, 1)), ((0, 1), (1, 0))])
        for one, other, equal in (((2, 0), (0, 2), True), ((1, 1), (0, 2), True), ((1, 1), (0, 3), False),
                                  ((0, 0), (0, 0), True), ((0, 0), (1, 0), False), ((6, 0), (3, 3), True)):
            self.assertIs(same.equal_sums(one, other), equal)
            self.assertIs(same.equal_sums(other=other, one=one), equal)
        ones = Schema("x", [((1,), (0,))])
        self.assertIs(ones.equal_sums((0,), (6,)), True)
        self.assertIs(Schema("x").equal_sums((1,), (2,)), False)
        self.assertIs(Schema("x").equal_sums((2,), (2,)), True)

    def test_both_ways_follow(self):
        pick = random.Random(28)
        seen = {True: 0, False: 0}
        for _ in range(400):
            width = pick.randint(1, 3)
            facts = random_facts(pick, width, pick.randint(0, 2), 2)
            schema = Schema("xyz"[:width], facts + [(high, low) for low, high in facts])
            one, other = random_facts(pick, width, 1, 2)[0]
            equal = schema.equal_sums(one, other)
            self.assertIs(equal, schema.follows(one, other) and schema.follows(other, one))
            self.assertIs(equal, all(times(ray, one) == times(ray, other) for ray in schema.rays()))
            seen[equal] += one != other
            for row in box(width, 1, 3):
                if equal and row in schema:
                    self.assertEqual(worth(row, one), worth(row, other))
        self.assertGreater(min(seen.values()), 20)


class WithFactsTest(unittest.TestCase):
    def test_facts_behind_the_own_ones(self):
        one, two, three = ((1, 0), (0, 1)), ((0, 2), (3, 0)), ((1, 1), (0, 6))
        schema = Schema("xy", [one])
        more = schema.with_facts(two, three)
        self.assertEqual([more.columns, more.width, more.facts()], ["xy", 2, [one, two, three]])
        self.assertEqual(more, Schema("xy", [one, two, three]))
        self.assertEqual(more.rays(), Schema("xy", [one, two, three]).rays())
        self.assertEqual([schema.facts(), schema.with_facts()], [[one], schema])
        self.assertEqual(schema.with_facts(one, one, one).facts(), [one] * 4)

    def test_errors(self):
        good = ((1,), (2,))
        schema = Schema("x", [good] * 3)
        for wrong in ANY_VALUES:
            if not is_plain_fact(wrong, 1):
                self.assertEqual(raised_by(schema.with_facts, wrong), ("InvalidFact", 0))
                self.assertEqual(raised_by(schema.with_facts, good, wrong, wrong), ("InvalidFact", 1))
        self.assertEqual(raised_by(schema.with_facts, good, good), ("TooMany", 4))
        self.assertEqual(raised_by(schema.with_facts, good, good, good, None), ("InvalidFact", 3))
        self.assertEqual(raised_by(schema.with_facts, [good]), ("InvalidFact", 0))
        self.assertEqual(schema.with_facts(good).facts(), [good] * 4)


class EqualTest(unittest.TestCase):
    def test_equal(self):
        one, two = ((1, 0), (0, 1)), ((0, 1), (1, 0))
        different = [Schema("xy"), Schema("yx"), Schema("x"), Schema("y"), Schema("xy", [one]), Schema("xy", [two]),
                     Schema("xy", [one, two]), Schema("xy", [two, one]), Schema("xy", [one, one])]
        for at, schema in enumerate(different):
            again = Schema(schema.columns, tuple(schema.facts()))
            self.assertIs(schema == again, True)
            self.assertIs(schema != again, False)
            for other in different[:at]:
                self.assertIs(schema == other, False)
                self.assertIs(schema != other, True)

    def test_nothing_else(self):
        for value in PLAIN + OBJECTS[1:] + ["Schema(x, 0 facts)"]:
            self.assertIs(Schema("x") == value, False)
            self.assertIs(value == Schema("x"), False)
            self.assertIs(Schema("x") != value, True)


if __name__ == "__main__":
    unittest.main()
