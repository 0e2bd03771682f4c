"""Points [21] to [24] of the document, and dealtpowers/keeping.py."""

import copy
import random
import unittest

from dealtpowers.claims import Claim
from dealtpowers.corners import base, lower_bounds, upper_bounds
from dealtpowers.errors import BrokenClaim, NothingLeft
from dealtpowers.keeping import Keeper, first_broken, stretch
from dealtpowers.products import Product
from dealtpowers.schemas import Schema
from questions import random_schema
from samples import ANY_VALUES, is_plain_exponent, keeps, plain_sum, raised_by, random_exponent, random_row, worth

COLUMN = Schema("x")
LINE = [(0,), (1,), (2,)]
FIVE = [(at,) for at in range(5)]


def plain_holds(claim, numbers):
    """Whether a claim holds with numbers in the places of its sums."""
    sides = [1, 1]
    for at, side in enumerate((claim.low, claim.high)):
        for exponent, power in side.factors():
            sides[at] *= numbers[exponent] ** power
    return sides[0] <= sides[1]


def plain_stretch(schema, known, goal, most):
    """The stretch of a goal, by trying all numbers up to most; greater ones are told as None."""
    sums, numbers = [exponent for exponent, _ in known], dict(known)

    def is_below(number):
        return all(number ** claim.low.power(goal) <= plain_side(claim.high, numbers)
                   for claim in upper_bounds(schema, sums, goal))

    def is_above(number):
        return number >= numbers.get(goal, 1) and all(plain_holds(claim, {**numbers, goal: number})
                                                      for claim in lower_bounds(schema, sums, goal))

    least = next((number for number in range(1, most + 1) if is_above(number)), None)
    greatest = next((number for number in range(most, 0, -1) if is_below(number)), None)
    return least, None if greatest == most else greatest


def plain_side(product, numbers):
    found = 1
    for exponent, power in product.factors():
        found *= numbers[exponent] ** power
    return found


def random_rows(pick, schema, many, most=6):
    """Rows of a schema, at least one."""
    found = [random_row(pick, schema.width, most) for _ in range(many)]
    return [row for row in found if keeps(row, schema.facts())] or [(1,) * schema.width]


def random_sums(pick, width, many, most=3):
    return sorted({random_exponent(pick, width, most) for _ in range(many)}, key=lambda _: pick.random())


class StretchTest(unittest.TestCase):
    def test_of_tables(self):
        pick = random.Random(1)
        wide = 0
        for _ in range(400):
            schema = random_schema(pick, 3)
            rows = random_rows(pick, schema, pick.randint(1, 5), pick.choice([3, 9, 10 ** 12]))
            sums = random_sums(pick, schema.width, pick.randint(1, 5), pick.choice([1, 3, 6]))[:4]
            known = [(exponent, plain_sum(rows, exponent)) for exponent in sums]
            goal = random_exponent(pick, schema.width, pick.choice([1, 3, 6]))
            least, greatest = stretch(schema, known, goal)
            worth_of_goal = plain_sum(rows, goal)
            self.assertTrue(1 <= least <= worth_of_goal)
            self.assertTrue(greatest is None or worth_of_goal <= greatest)
            self.assertEqual(greatest is None, not upper_bounds(schema, sums, goal))
            wide += greatest is not None and least < greatest
            for exponent, number in known:
                self.assertEqual(stretch(schema, known, exponent), (number, number))
        self.assertGreater(wide, 60)

    def test_by_trying_all_numbers(self):
        pick = random.Random(2)
        seen = {}
        for _ in range(400):
            schema = random_schema(pick, 2, 2)
            sums = random_sums(pick, schema.width, pick.randint(1, 3), 2)
            known = [(exponent, pick.randint(1, 9)) for exponent in sums]
            if pick.random() < .6:
                rows = random_rows(pick, schema, 3, 2)
                known = [(exponent, plain_sum(rows, exponent)) for exponent in sums]
            goal = pick.choice([*sums, random_exponent(pick, schema.width, 2), random_exponent(pick, schema.width, 2)])
            least, greatest = plain_stretch(schema, known, goal, 100)
            bounded = bool(upper_bounds(schema, sums, goal))
            if least is None or (bounded and greatest is None):
                continue
            wanted = (least, greatest if bounded else None)
            if bounded and least > greatest:
                self.assertEqual(raised_by(stretch, schema, known, goal), ("NoTable",))
                wanted = "no table"
            else:
                self.assertEqual(stretch(schema, known, goal), wanted)
            told = (bounded, wanted == "no table", goal in sums)
            seen[told] = seen.get(told, 0) + 1
        self.assertEqual(set(seen), {(True, False, False), (True, False, True), (True, True, False), (True, True, True),
                                     (False, False, False)})

    def test_by_hand(self):
        self.assertEqual(stretch(COLUMN, [((0,), 3), ((2,), 50)], (1,)), (8, 12))
        self.assertEqual(stretch(COLUMN, [((0,), 3)], (1,)), (3, None))
        self.assertEqual(stretch(COLUMN, [((1,), 5)], (0,)), (1, 5))
        self.assertEqual(stretch(COLUMN, [((1,), 5)], (2,)), (5, 25))
        self.assertEqual(stretch(COLUMN, [((2,), 5)], (1,)), (3, 5))
        self.assertEqual(stretch(COLUMN, ([((2,), 5)])[:1] + [((0,), 5)], (1,)), (5, 5))
        self.assertEqual(stretch(COLUMN, (((2,), 5),), (2,)), (5, 5))
        self.assertEqual(stretch(COLUMN, [((0,), 3), ((1,), 2)], (2,)), (3, 4))
        self.assertEqual(raised_by(stretch, COLUMN, [((0,), 3), ((1,), 2)], (1,)), ("NoTable",))
        self.assertEqual(raised_by(stretch, COLUMN, [((0,), 3), ((1,), 2)], (0,)), ("NoTable",))
        self.assertEqual(stretch(Schema("x", [((1,), (0,))]), [((5,), 7)], (1,)), (7, 7))

    def test_long_numbers(self):
        big = 10 ** 60 - 1
        self.assertEqual(stretch(COLUMN, [((6,), big)], (1,)), (10 ** 10, big))
        self.assertEqual(stretch(COLUMN, [((1,), big)], (6,)), (big, big ** 6))
        # With such facts S[x6] may be as much as the power 216 of S[z].
        chain = Schema("xyz", [((1, 0, 0), (0, 6, 0)), ((0, 1, 0), (0, 0, 6))])
        self.assertEqual(stretch(chain, [((0, 0, 1), big)], (6, 0, 0)), (1, big ** 216))
        least, greatest = stretch(chain, [((6, 0, 0), big ** 216)], (0, 0, 1))
        self.assertEqual([least, greatest], [big, None])

    def test_bounds_of_great_degrees(self):
        # The numbers of these corners are far above 60, so no root is taken of the product itself.
        pick = random.Random(3)
        seen = []
        for _ in range(60):
            schema = Schema("xyz", [(random_exponent(pick, 3), random_exponent(pick, 3)) for _ in range(2)])
            sums = random_sums(pick, 3, 4, 6)
            rows = random_rows(pick, schema, 20, 3)
            known = [(exponent, plain_sum(rows, exponent)) for exponent in sums]
            goal = random_exponent(pick, 3)
            uppers = upper_bounds(schema, sums, goal)
            lowers = lower_bounds(schema, sums, goal) if goal not in sums else []
            least, greatest = stretch(schema, known, goal)
            numbers = dict(known)
            if uppers:
                self.assertTrue(all(plain_holds(claim, {**numbers, goal: greatest}) for claim in uppers))
                self.assertFalse(all(plain_holds(claim, {**numbers, goal: greatest + 1}) for claim in uppers)
                                 and goal not in sums)
                seen += [claim.low.power(goal) for claim in uppers]
            if goal not in sums:
                self.assertTrue(all(plain_holds(claim, {**numbers, goal: least}) for claim in lowers))
                self.assertTrue(least == 1 or not all(plain_holds(claim, {**numbers, goal: least - 1}) for claim in lowers))
        self.assertGreater(max(seen), 60)


class FirstBrokenTest(unittest.TestCase):
    def test_by_the_base(self):
        pick = random.Random(4)
        seen = []
        for _ in range(250):
            schema = random_schema(pick, 2)
            sums = random_sums(pick, schema.width, pick.randint(1, 4))
            if any(schema.equal_sums(one, other) for one in sums for other in sums if one != other):
                continue
            rows = random_rows(pick, schema, 3)
            known = [(exponent, max(1, plain_sum(rows, exponent) + pick.choice([0, 0, -1, -3, 3, 30]))) for exponent in sums]
            broken = [claim for claim in base(schema, sums) if not plain_holds(claim, dict(known))]
            self.assertEqual(first_broken(schema, known), broken[0] if broken else None)
            seen.append(len(broken))
        self.assertTrue(seen.count(0) > 30 and seen.count(1) > 20 and max(seen) > 1, seen)

    def test_by_hand(self):
        self.assertIsNone(first_broken(COLUMN, [((0,), 4), ((1,), 8), ((2,), 16)]))
        self.assertEqual(first_broken(COLUMN, [((0,), 3), ((1,), 5), ((2,), 7)]).text(), "S[x]^2 <= S[] S[x2]")
        self.assertEqual(first_broken(COLUMN, [((0,), 9), ((1,), 5), ((2,), 99)]).text(), "S[] <= S[x]")
        self.assertEqual(first_broken(COLUMN, (((2,), 26), ((0,), 1), ((1,), 5))).text(), "S[x2] <= S[x]^2")
        self.assertIsNone(first_broken(COLUMN, [((1,), 1)]))
        big = 10 ** 60 - 1
        self.assertIsNone(first_broken(COLUMN, [((0,), 1), ((1,), big), ((2,), big ** 2)]))
        self.assertEqual(first_broken(COLUMN, [((0,), 1), ((1,), big), ((2,), big ** 2 + 1)]).text(), "S[x2] <= S[x]^2")


class ErrorsTest(unittest.TestCase):
    def check(self, known, wanted):
        self.assertEqual(raised_by(stretch, COLUMN, known, (1,)), wanted, known)
        self.assertEqual(raised_by(first_broken, COLUMN, known), wanted, known)

    def test_known_sums(self):
        for value in ANY_VALUES:
            if not isinstance(value, (list, tuple)):
                self.check(value, ("InvalidSums", -1))
            if value != ((1,), 1):
                self.check([value], ("InvalidSums", 0))
                self.check([((0,), 1), value, value], ("InvalidSums", 1))
            if not is_plain_exponent(value, 1):
                self.check([(value, 1)], ("InvalidSums", 0))
            if type(value) is not int or value < 1:
                self.check([((1,), value)], ("InvalidSums", 0))
        for value in ([], (), [((at,), 1) for at in range(6)], [None] * 60):
            self.check(value, ("InvalidSums", -1))
        for value in ([[(1,), 1]], [((1,), 1, 1)], [((1,),)]):
            self.check(value, ("InvalidSums", 0))
        self.check([((0,), 1), ((1,), 1), ((0,), 2), None], ("InvalidSums", 2))
        self.check([((at,), 1) for at in range(5)], None)

    def test_goals(self):
        five = [((at,), 1) for at in range(5)]
        for value in ANY_VALUES:
            if not is_plain_exponent(value, 1):
                self.assertEqual(raised_by(stretch, COLUMN, five, value), ("InvalidExponent", value))
                self.assertEqual(raised_by(stretch, COLUMN, five + [None], value), ("InvalidSums", -1))
                self.assertEqual(raised_by(stretch, COLUMN, five[1:] + [None], value), ("InvalidSums", 4))
        self.assertEqual(raised_by(stretch, COLUMN, five, (5,)), ("TooMany", 5))
        self.assertEqual(raised_by(stretch, COLUMN, [((0,), 9)] + five[1:], (5,)), ("TooMany", 5))
        self.assertEqual(stretch(COLUMN, five, (4,)), (1, 1))
        self.assertEqual(raised_by(stretch, COLUMN, [((0,), 9)] + five[1:], (4,)), ("NoTable",))

    def test_equal_sums(self):
        same = Schema("xy", [((1, 0), (0, 1)), ((0, 1), (1, 0))])
        known = [((1, 0), 1), ((0, 2), 1), ((0, 1), 1)]
        self.assertEqual(raised_by(first_broken, same, known), ("EqualSums", 2))
        self.assertEqual(raised_by(Keeper, same, [exponent for exponent, _ in known]), ("EqualSums", 2))
        self.assertEqual(raised_by(first_broken, same, known + [None]), ("InvalidSums", 3))
        self.assertEqual(stretch(same, known, (1, 0)), (1, 1))

    def test_keepers(self):
        for value in ANY_VALUES:
            if not isinstance(value, (list, tuple)):
                self.assertEqual(raised_by(Keeper, COLUMN, value), ("InvalidSums", -1))
            if not is_plain_exponent(value, 1):
                self.assertEqual(raised_by(Keeper, COLUMN, [(0,), value]), ("InvalidSums", 1))
        for value in ([], (), [(at,) for at in range(6)]):
            self.assertEqual(raised_by(Keeper, COLUMN, value), ("InvalidSums", -1))
        self.assertEqual(raised_by(Keeper, Schema("x", [((1,), (0,))]), [(0,), (1,), (1,)]), ("InvalidSums", 2))


class KeeperTest(unittest.TestCase):
    def state(self, keeper):
        return (keeper.known(), keeper.sums(), keeper.history(), keeper.busy, repr(keeper), len(keeper), keeper.schema)

    def test_by_plain_arithmetic(self):
        pick = random.Random(5)
        steps = {}
        for _ in range(40):
            schema = random_schema(pick, 2)
            sums = random_sums(pick, schema.width, pick.randint(1, 4), 2)
            if any(schema.equal_sums(one, other) for one in sums for other in sums if one != other):
                continue
            keeper, numbers, done, undone = Keeper(schema, sums), [0] * len(sums), [], []
            for _ in range(30):
                word = pick.choice(["apply", "apply", "put", "strike", "undo", "redo"])
                if word in ("undo", "redo"):
                    told = raised_by(getattr(keeper, word))
                    come, go = (done, undone) if word == "undo" else (undone, done)
                    self.assertEqual(told, None if come else ("NothingLeft",))
                    if come:
                        go.append(numbers)
                        numbers = come.pop()
                else:
                    deeds = [self.random_deed(pick, schema, word) for _ in range(pick.randint(0, 3) if word == "apply" else 1)]
                    wanted, fresh = self.plain_apply(schema, sums, numbers, deeds)
                    if word == "apply":
                        told = raised_by(keeper.apply, *deeds)
                    else:
                        told = raised_by(getattr(keeper, word), deeds[0][1], count=deeds[0][2])
                    self.assertEqual(told, wanted, (deeds, numbers))
                    if wanted is None:
                        done.append(numbers)
                        numbers, undone = fresh, []
                steps[told and told[0]] = steps.get(told and told[0], 0) + 1
                self.assertEqual(self.state(keeper), (list(zip(sums, numbers)), sums, (len(done), len(undone)), False,
                                                      f"Keeper({len(sums)} sums)", len(sums), schema))
        self.assertEqual(set(steps), {None, "InvalidRow", "NotThere", "BrokenClaim", "NothingLeft"})

    def random_deed(self, pick, schema, word):
        word = pick.choice(["put", "put", "strike"]) if word == "apply" else word
        if pick.random() < .1:
            return (word, random_row(pick, schema.width, 3), 1)
        row = random_rows(pick, schema, 3, 2)[0]
        return (word, row, pick.randint(1, 3))

    def plain_apply(self, schema, sums, numbers, deeds):
        """The error of deeds of the right form, or None, and the numbers behind them."""
        for word, row, count in deeds:
            if not keeps(row, schema.facts()):
                return ("InvalidRow", row), None
            sign = 1 if word == "put" else -1
            numbers = [number + sign * count * worth(row, exponent) for number, exponent in zip(numbers, sums)]
            if min(numbers) < 0 or (0 in numbers and any(numbers)):
                return ("NotThere",), None
            if word == "strike" and any(numbers):
                held = dict(zip(sums, numbers))
                for claim in base(schema, sums):
                    if not plain_holds(claim, held):
                        return ("BrokenClaim", claim.text()), None
        return None, numbers

    def test_by_hand(self):
        keeper = Keeper(COLUMN, LINE)
        self.assertEqual(keeper.known(), [((0,), 0), ((1,), 0), ((2,), 0)])
        keeper.put((2,), count=4)
        self.assertEqual(keeper.known(), [((0,), 4), ((1,), 8), ((2,), 16)])
        before = self.state(keeper)
        self.assertEqual(raised_by(keeper.strike, (3,)), ("BrokenClaim", "S[x]^2 <= S[] S[x2]"))
        self.assertEqual(raised_by(keeper.strike, (1,)), ("BrokenClaim", "S[x]^2 <= S[] S[x2]"))
        self.assertEqual(raised_by(keeper.strike, (5,)), ("NotThere",))
        self.assertEqual(raised_by(keeper.strike, (2,), count=5), ("NotThere",))
        self.assertEqual(self.state(keeper), before)
        keeper.strike((2,), count=3)
        self.assertEqual(keeper.known(), [((0,), 1), ((1,), 2), ((2,), 4)])
        keeper.strike((2,))
        self.assertEqual([keeper.known(), keeper.history()], [[((0,), 0), ((1,), 0), ((2,), 0)], (3, 0)])
        self.assertEqual(raised_by(keeper.strike, (1,)), ("NotThere",))

    def test_some_sums_would_be_0(self):
        keeper = Keeper(COLUMN, [(0,), (1,)])
        keeper.put((2,), count=2)
        self.assertEqual(raised_by(keeper.strike, (1,), count=2), ("NotThere",))
        self.assertEqual(raised_by(keeper.strike, (4,)), ("NotThere",))
        # The keeper does not know the rows themselves.
        keeper.put((4,))
        keeper.strike((3,))
        self.assertEqual(keeper.known(), [((0,), 2), ((1,), 5)])
        keeper.apply(("strike", (2,), 1), ("strike", (3,), 1))
        self.assertEqual(keeper.known(), [((0,), 0), ((1,), 0)])

    def test_deeds(self):
        keeper = Keeper(COLUMN, LINE)
        keeper.put((3,))
        before = self.state(keeper)
        for value in ANY_VALUES + [("put", (1,)), ("put", (1,), 1, 1), ["put", (1,), 1], ("Put", (1,), 1), ("", (1,), 1),
                                   ("put", (1,), 0), ("put", (1,), -1), ("put", (1,), True), ("strike", (1,), None),
                                   (["put"], (1,), 1), (None, (1,), 1), ("put", (1,), "1"), ("put", (1,), (1,))]:
            self.assertEqual(raised_by(keeper.apply, value), ("InvalidDeed", 0), value)
            self.assertEqual(raised_by(keeper.apply, ("put", None, 1), ("put", (2,), 1), value, value), ("InvalidDeed", 2))
            if type(value) is not int or value < 1:
                self.assertEqual(raised_by(keeper.put, (1,), count=value), ("InvalidDeed", 0))
                self.assertEqual(raised_by(keeper.strike, None, count=value), ("InvalidDeed", 0))
        self.assertEqual(self.state(keeper), before)

    def test_rows(self):
        keeper = Keeper(Schema("x", [((2,), (3,))]), LINE)
        keeper.put((3,))
        before = self.state(keeper)
        for value in ANY_VALUES:
            if type(value) is not tuple or value not in [(1,), (7,), (6,)] or type(value[0]) is not int:
                self.assertEqual(raised_by(keeper.put, value), ("InvalidRow", value))
                self.assertEqual(raised_by(keeper.strike, value), ("InvalidRow", value))
                self.assertEqual(raised_by(keeper.apply, ("put", (2,), 1), ("strike", value, 1)), ("InvalidRow", value))
        self.assertEqual(self.state(keeper), before)
        bound = Keeper(Schema("xy", [((2, 0), (0, 1))]), [(0, 0), (1, 0)])
        self.assertEqual(raised_by(bound.put, (2, 3)), ("InvalidRow", (2, 3)))
        bound.put((2, 4))
        self.assertEqual(raised_by(bound.strike, (2, 3)), ("InvalidRow", (2, 3)))
        self.assertEqual(bound.known(), [((0, 0), 1), ((1, 0), 2)])

    def test_all_deeds_or_none(self):
        keeper = Keeper(COLUMN, LINE)
        keeper.apply(("put", (1,), 1), ("put", (2,), 3), ("strike", (1,), 1))
        self.assertEqual([keeper.known(), keeper.history()], [[((0,), 3), ((1,), 6), ((2,), 12)], (1, 0)])
        keeper.undo()
        before = self.state(keeper)
        for deeds, wanted in (([("put", (1,), 1), ("strike", (1,), 2)], ("NotThere",)),
                              ([("put", (1,), 1), ("strike", (2,), 1)], ("NotThere",)),
                              ([("strike", (1,), 1), ("put", (1,), 1)], ("NotThere",)),
                              ([("put", (1,), 1), ("put", (0,), 1), ("put", (), 1)], ("InvalidRow", (0,))),
                              ([("put", (2,), 4), ("strike", (3,), 1), ("put", (0,), 1)],
                               ("BrokenClaim", "S[x]^2 <= S[] S[x2]")),
                              ([("put", (0,), 1), ("put", (0,), 0)], ("InvalidDeed", 1))):
            self.assertEqual(raised_by(keeper.apply, *deeds), wanted)
            self.assertEqual(self.state(keeper), before)
        keeper.redo()
        self.assertEqual([keeper.known(), keeper.history()], [[((0,), 3), ((1,), 6), ((2,), 12)], (1, 0)])

    def test_steps(self):
        keeper = Keeper(COLUMN, [(1,)])
        for call in (keeper.undo, keeper.redo):
            self.assertRaises(NothingLeft, call)
        keeper.apply()
        keeper.put((5,))
        keeper.apply()
        self.assertEqual(keeper.history(), (3, 0))
        seen = []
        for call in (keeper.undo, keeper.undo, keeper.redo, keeper.undo, keeper.undo):
            self.assertIsNone(call())
            seen.append((keeper.known()[0][1], keeper.history()))
        self.assertEqual(seen, [(5, (2, 1)), (0, (1, 2)), (5, (2, 1)), (0, (1, 2)), (0, (0, 3))])
        self.assertRaises(NothingLeft, keeper.undo)
        self.assertEqual(raised_by(keeper.put, (0,)), ("InvalidRow", (0,)))
        self.assertEqual(keeper.history(), (0, 3))
        keeper.apply()
        self.assertEqual(keeper.history(), (1, 0))
        self.assertRaises(NothingLeft, keeper.redo)

    def test_stretch(self):
        keeper = Keeper(COLUMN, [(0,), (2,)])
        for value in ANY_VALUES:
            if not is_plain_exponent(value, 1):
                self.assertEqual(raised_by(keeper.stretch, value), ("InvalidExponent", value))
        self.assertEqual(raised_by(keeper.stretch, (1,)), ("Empty",))
        keeper.apply(("put", (1,), 1), ("put", (3,), 1), ("put", (6,), 1))
        self.assertEqual(keeper.known(), [((0,), 3), ((2,), 46)])
        self.assertEqual(keeper.stretch((1,)), stretch(COLUMN, keeper.known(), (1,)))
        self.assertEqual([keeper.stretch((0,)), keeper.stretch(goal=(2,))], [(3, 3), (46, 46)])
        five = Keeper(COLUMN, FIVE)
        self.assertEqual(raised_by(five.stretch, (5,)), ("Empty",))
        five.put((2,))
        self.assertEqual(raised_by(five.stretch, (5,)), ("TooMany", 5))
        self.assertEqual(five.stretch((4,)), (16, 16))
        # Two claims of which one is not in the base of two sums may leave no number for a third one.
        keeper = Keeper(COLUMN, [(0,), (2,)])
        keeper.put((2,), count=3)
        self.assertEqual(raised_by(keeper.strike, (3,)), None)
        self.assertEqual([keeper.known(), raised_by(keeper.stretch, (1,))], [[((0,), 2), ((2,), 3)], None])

    def test_twins(self):
        keeper = Keeper(COLUMN, LINE)
        keeper.put((2,), count=2)
        keeper.put((3,))
        keeper.undo()
        twin = keeper.twin()
        self.assertEqual([self.state(twin), twin == keeper, twin is keeper], [self.state(keeper), True, False])
        before = self.state(keeper)
        twin.redo()
        twin.strike((2,))
        self.assertEqual([self.state(keeper), twin == keeper], [before, False])
        self.assertEqual(twin.history(), (3, 0))
        other = self.state(twin)
        keeper.undo()
        self.assertEqual([keeper.history(), self.state(twin)], [(0, 2), other])
        self.assertEqual(raised_by(keeper.twin().strike, (1,)), ("NotThere",))

    def test_equal(self):
        one = Keeper(COLUMN, [(0,), (1,)])
        self.assertEqual(one, Keeper(Schema("x"), ((0,), (1,))))
        for other in (Keeper(COLUMN, [(1,), (0,)]), Keeper(COLUMN, [(0,)]), Keeper(Schema("y"), [(0,), (1,)]),
                      Keeper(Schema("x", [((0,), (1,))]), [(0,), (1,)]), *ANY_VALUES):
            self.assertFalse(one == other)
            self.assertTrue(one != other)
        other = one.twin()
        one.put((2,))
        self.assertFalse(one == other)
        other.apply(("put", (2,), 1))
        self.assertTrue(one == other)
        one.put((1,))
        one.undo()
        self.assertTrue(one == other)
        self.assertEqual([bool(one), len(one), repr(one), repr(Keeper(COLUMN, [(0,)]))],
                         [True, 2, "Keeper(2 sums)", "Keeper(1 sums)"])

    def test_large_counts_and_rows(self):
        big = 10 ** 60 - 1
        keeper = Keeper(Schema("xyz"), [(6, 6, 6), (0, 0, 0), (6, 0, 0), (0, 0, 1), (1, 1, 1)])
        keeper.put((big, big, big), count=big)
        keeper.put((big, 1, 2), count=big)
        self.assertEqual(keeper.known()[0], ((6, 6, 6), big ** 19 + 64 * big ** 7))
        keeper.strike((big, 1, 2), count=big - 1)
        keeper.strike((big, big, big), count=big)
        keeper.strike((big, 1, 2))
        self.assertEqual([number for _, number in keeper.known()], [0] * 5)
        self.assertEqual(raised_by(keeper.strike, (big, 1, 2)), ("NotThere",))

    def test_arguments_and_results(self):
        sums, row = [(0,), (1,)], (2,)
        keeper = Keeper(sums=sums, schema=COLUMN)
        sums.append(None)
        sums[0] = None
        self.assertEqual(keeper.sums(), [(0,), (1,)])
        keeper.put(row=row, count=2)
        keeper.strike(row=row, count=1)
        for call in (keeper.sums, keeper.known):
            before = copy.deepcopy(call())
            call().clear()
            self.assertEqual([call(), type(call())], [before, list])
        self.assertEqual(stretch(goal=(2,), known=keeper.known(), schema=COLUMN), keeper.stretch((2,)))
        self.assertIsNone(first_broken(known=keeper.known(), schema=COLUMN))
        with self.assertRaises(TypeError):
            keeper.put((1,), 2)
        self.assertRaises(AttributeError, setattr, keeper, "busy", True)

    def test_busy_while_deeds_are_done(self):
        seen = []

        class Watching(Schema):
            def __contains__(self, row):
                seen.append(keeper.busy)
                return super().__contains__(row)

        keeper = Keeper(Watching("x"), LINE)
        keeper.apply(("put", (2,), 1), ("put", (3,), 1))
        self.assertEqual([seen, keeper.busy], [[True, True], False])
        for deeds in ([("put", (2,), 1), ("put", (0,), 1)], [("strike", (2,), 9)], [("put", (2,), 9), ("strike", (4,), 1)]):
            self.assertIsNotNone(raised_by(keeper.apply, *deeds))
            self.assertEqual([set(seen), keeper.busy], [{True}, False])

    def test_a_broken_claim_is_told_by_its_text(self):
        keeper = Keeper(COLUMN, LINE)
        keeper.put((2,), count=4)
        with self.assertRaises(BrokenClaim) as found:
            keeper.strike((3,))
        self.assertEqual(found.exception.broken, "S[x]^2 <= S[] S[x2]")
        claim = Claim(COLUMN, Product(1, [((1,), 2)]), Product.of((0,), (2,)))
        self.assertEqual(found.exception.broken, claim.text())


if __name__ == "__main__":
    unittest.main()
