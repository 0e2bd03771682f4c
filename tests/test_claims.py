"""Claims, held against the plain sums of tables."""

import random
import unittest

from dealtpowers.claims import Claim, read_claim
from dealtpowers.products import Product
from dealtpowers.schemas import Schema
from dealtpowers.tables import Table
from samples import (ANY_VALUES, OBJECTS, PLAIN, box, is_plain_exponent, plain_worth, raised_by, random_exponent,
                     random_factors, random_facts, random_groups, rows_of, worth)

LONG = 10 ** 60 - 1
TWELVE = box(2, 0, 3)[:12]


def random_claim(pick, columns, many=3, facts=()):
    width = len(columns)
    return Claim(Schema(columns, facts), *[Product(width, random_factors(pick, width, pick.randint(0, many)))
                                           for _ in "ab"])


def random_table(pick, width, many=4, most=6):
    groups = random_groups(pick, width, pick.randint(1, many), most)
    return Table(width, groups), rows_of(groups)


def image(exponent, images):
    """The sum of e[i] * images[i]."""
    return tuple(sum(part * other[at] for part, other in zip(exponent, images)) for at in range(len(images[0])))


class ClaimTest(unittest.TestCase):
    def test_attributes(self):
        schema, low, high = Schema("xy", [((1, 0), (0, 1))]), Product.of((1, 1), width=2), Product(2)
        for claim in (Claim(schema, low, high), Claim(high=high, low=low, schema=schema)):
            self.assertEqual([claim.schema, claim.low, claim.high], [schema, low, high])

    def test_widths_that_differ(self):
        for own in (1, 2, 3):
            for low in (1, 2, 3):
                for high in (1, 2, 3):
                    wanted = ("WrongWidth", low) if low != own else ("WrongWidth", high) if high != own else None
                    self.assertEqual(raised_by(Claim, Schema("xyz"[:own]), Product(low), Product(high)), wanted)

    def test_sides_that_are_no_products(self):
        schema, table = Schema("xy"), Table(3, [(1, (1, 1, 1))])
        self.assertEqual(raised_by(Claim, schema, table, Product(1)), ("WrongWidth", 3))
        self.assertEqual(raised_by(Claim, schema, Product(2), Schema("x")), ("WrongWidth", 1))

    def test_equal(self):
        one, two = Product.of((1,)), Product.of((2,))
        facts = [((1,), (2,))]
        different = [Claim(Schema("x"), one, two), Claim(Schema("x"), two, one), Claim(Schema("x"), one, one),
                     Claim(Schema("y"), one, two), Claim(Schema("x", facts), one, two), Claim(Schema("x"), one ** 2, two),
                     Claim(Schema("x"), one, two ** 2), Claim(Schema("x"), Product(1), Product(1))]
        for at, claim in enumerate(different):
            again = Claim(Schema(claim.schema.columns, claim.schema.facts()), claim.low ** 1, claim.high ** 1)
            self.assertIs(claim == again, True)
            self.assertIs(claim != again, False)
            for other in different[:at]:
                self.assertIs(claim == other, False)
                self.assertIs(claim != other, True)

    def test_equals_nothing_else(self):
        claim = Claim(Schema("x"), Product(1), Product(1))
        for value in PLAIN + [item for item in OBJECTS if type(item) is not Claim] + ["1 <= 1", "Claim(1 <= 1)"]:
            self.assertIs(claim == value, False)
            self.assertIs(value == claim, False)
            self.assertIs(claim != value, True)


class SidesTest(unittest.TestCase):
    def test_by_hand(self):
        claim = read_claim(Schema("x"), "S[x2] <= S[x]")
        self.assertEqual(claim.sides(Table(1, [(1, (2,))])), (4, 2))
        self.assertIs(claim(Table(1, [(1, (2,))])), False)
        self.assertIs(claim(Table(1, [(7, (1,))])), True)
        cauchy = read_claim(Schema("xy"), "S[x y]^2 <= S[y2] S[x2]")
        self.assertEqual(cauchy.sides(Table(2, [(3, (1, 2)), (1, (4, 5))])), (26 ** 2, 37 * 19))

    def test_against_plain_sums(self):
        pick = random.Random(61)
        seen = set()
        for _ in range(400):
            columns = pick.choice(["x", "xy", "xyz"])
            claim = random_claim(pick, columns)
            table, rows = random_table(pick, len(columns), 4, pick.choice([1, 2, 6]))
            low, high = [plain_worth(side.factors(), rows) for side in (claim.low, claim.high)]
            self.assertEqual(claim.sides(table), (low, high))
            self.assertIs(type(claim.sides(table)), tuple)
            self.assertEqual(claim.sides(table=table), (low, high))
            self.assertIs(claim(table), low <= high)
            self.assertIs(claim(table=table), low <= high)
            seen.add((low > high) - (low < high))
        self.assertEqual(seen, {-1, 0, 1})

    def test_equal_worths_of_other_sums(self):
        # In a table of one row (2, 8) the sums of x3 and y are equal, and so are powers that make up for each other.
        schema, table = Schema("xy"), Table(2, [(1, (2, 8))])
        for text in ("S[x3] <= S[y]", "S[y] <= S[x3]", "S[x]^6 <= S[y]^2", "S[y]^2 <= S[x]^6", "S[y] S[x] <= S[x2]^2",
                     "S[x2]^2 <= S[y] S[x]", "S[]^5 <= 1", "1 <= S[]^7"):
            self.assertIs(read_claim(schema, text)(table), True)
        for text in ("S[x]^7 <= S[y]^2", "S[y] S[x2] <= S[x2]^2", "S[x] <= 1"):
            self.assertIs(read_claim(schema, text)(table), False)

    def test_powers_too_long_for_sides(self):
        schema = Schema("x")
        table = Table(1, [(1, (2,)), (1, (3,))])
        one, two, three = Product.of((1,)), Product.of((2,)), Product.of((3,))
        for low, high, holds in ((one ** LONG, two ** LONG, True), (two ** LONG, one ** LONG, False),
                                 (one ** LONG, one ** LONG, True), (one ** LONG, one ** (LONG - 1), False),
                                 (one ** LONG * two, one ** LONG * three, True), (three ** LONG, one ** LONG * two, False),
                                 (Product(1), two ** LONG, True), (two ** LONG, Product(1), False)):
            self.assertIs(Claim(schema, low, high)(table), holds)
        ones = Table(1, [(1, (1,))])
        self.assertIs(Claim(schema, two ** LONG, Product(1))(ones), True)
        self.assertEqual(Claim(schema, two ** LONG, Product(1)).sides(ones), (1, 1))

    def test_rows_of_no_schema(self):
        claim = read_claim(Schema("x", [((1,), (0,))]), "S[x] <= S[x2]")
        self.assertIs(claim(Table(1, [(1, (5,))])), True)
        self.assertEqual(claim.sides(Table(1, [(1, (5,))])), (5, 25))

    def test_widths_that_differ(self):
        for one in (1, 2, 3):
            claim = Claim(Schema("xyz"[:one]), Product(one), Product(one))
            for other in (1, 2, 3):
                table = Table(other, [(1, (1,) * other)])
                wanted = None if one == other else ("WrongWidth", other)
                self.assertEqual([raised_by(claim, table), raised_by(claim.sides, table)], [wanted, wanted])


class ArithmeticTest(unittest.TestCase):
    def test_times_another_claim(self):
        pick = random.Random(62)
        for _ in range(80):
            facts = random_facts(pick, 2, pick.randint(0, 2))
            one, other = [random_claim(pick, "xy", 5, facts) for _ in "ab"]
            found = one * other
            self.assertEqual([found.schema, found.low, found.high], [one.schema, one.low * other.low, one.high * other.high])
            table, _ = random_table(pick, 2)
            self.assertEqual(found.sides(table), tuple(a * b for a, b in zip(one.sides(table), other.sides(table))))

    def test_wrong_schemas(self):
        schemas = [Schema("xy"), Schema("yx"), Schema("x"), Schema("xy", [((1, 0), (0, 1))]), Schema("xyz")]
        many = [Claim(schema, Product(schema.width), Product(schema.width)) for schema in schemas]
        for at, one in enumerate(many):
            for to, other in enumerate(many):
                self.assertEqual(raised_by(lambda: one * other), None if at == to else ("WrongSchema", 1))
        for value in PLAIN + [item for item in OBJECTS if type(item) is not Claim]:
            self.assertEqual(raised_by(lambda: many[2] * value), ("WrongSchema", 1))
        twelve = Product.of(*TWELVE, width=2)
        full = Claim(schemas[0], twelve, twelve)
        more = Claim(schemas[1], Product.of((6, 6), width=2), Product(2))
        self.assertEqual(raised_by(lambda: full * more), ("WrongSchema", 1))

    def test_too_many(self):
        twelve, other, none = Product.of(*TWELVE, width=2), Product.of((6, 6), width=2), Product(2)
        schema = Schema("xy")
        for low, high in ((twelve, none), (none, twelve), (twelve, twelve)):
            full = Claim(schema, low, high)
            more = Claim(schema, other, other)
            self.assertEqual(raised_by(lambda: full * more), ("TooMany", 12))
            self.assertEqual(raised_by(lambda: more * full), ("TooMany", 12))
            self.assertEqual(raised_by(full.times, other), ("TooMany", 12))
            self.assertIsNone(raised_by(lambda: full * full))
            self.assertIsNone(raised_by(full.times, twelve))

    def test_to_the(self):
        pick = random.Random(63)
        for number in (0, 1, 2, 7, LONG):
            claim = random_claim(pick, "xy", 4, [((1, 0), (0, 1))])
            wanted = Claim(claim.schema, claim.low ** number, claim.high ** number)
            self.assertEqual([claim.to_the(number), claim.to_the(number=number), claim ** number], [wanted] * 3)
        self.assertEqual((claim ** 0).text(), "1 <= 1")
        claim = read_claim(Schema("x"), "S[x] <= S[x2]")
        for wrong in ANY_VALUES + [-1, -LONG]:
            if type(wrong) is not int or wrong < 0:
                for call in (claim.to_the, lambda wrong: claim ** wrong):
                    self.assertEqual(raised_by(call, wrong), ("InvalidNumber", wrong))

    def test_turned(self):
        claim = read_claim(Schema("x", [((1,), (2,))]), "S[x]^2 <= S[] S[x2]")
        self.assertEqual(claim.turned().text(), "S[] S[x2] <= S[x]^2")
        self.assertEqual(claim.turned().schema, claim.schema)
        self.assertEqual(claim.turned().turned(), claim)

    def test_times(self):
        pick = random.Random(64)
        for _ in range(60):
            claim = random_claim(pick, "xy", 4, random_facts(pick, 2, 1))
            product = Product(2, random_factors(pick, 2, 4))
            found = claim.times(product)
            self.assertEqual(found, claim.times(product=product))
            self.assertEqual([found.schema, found.low, found.high],
                             [claim.schema, claim.low * product, claim.high * product])
            table, _ = random_table(pick, 2)
            self.assertEqual(found.sides(table), tuple(side * product.worth(table) for side in claim.sides(table)))
            self.assertIs(found(table), claim(table))

    def test_times_a_product_of_another_width(self):
        twelve = Product.of(*TWELVE, width=2)
        for own, other in ((1, 2), (1, 3), (2, 1), (2, 3), (3, 1), (3, 2)):
            claim = Claim(Schema("xyz"[:own]), Product(own), Product(own))
            self.assertEqual(raised_by(claim.times, Product(other)), ("WrongWidth", other))
        self.assertEqual(raised_by(Claim(Schema("xy"), twelve, twelve).times, Product.of((6,))), ("WrongWidth", 1))


class MovedTest(unittest.TestCase):
    def test_by_hand(self):
        claim = read_claim(Schema("xy"), "S[x y]^2 <= S[y2] S[x2]")
        for columns, images, text in (("ab", [(1, 0), (0, 1)], "S[a b]^2 <= S[b2] S[a2]"),
                                      ("ab", [(0, 1), (1, 0)], "S[a b]^2 <= S[b2] S[a2]"),
                                      ("q", [(0,), (1,)], "S[q]^2 <= S[] S[q2]"),
                                      ("q", [(2,), (2,)], "S[q4]^2 <= S[q4]^2"),
                                      ("abc", [(1, 1, 0), (0, 1, 3)], "S[a b2 c3]^2 <= S[b2 c6] S[a2 b2]")):
            for given in (images, tuple(images)):
                found = claim.moved(Schema(columns), given)
                self.assertEqual([found.schema, found.text()], [Schema(columns), text])
                self.assertEqual(claim.moved(images=given, schema=Schema(columns)), found)
        self.assertEqual(claim.text(), "S[x y]^2 <= S[y2] S[x2]")

    def test_facts_go_with_it(self):
        claim = read_claim(Schema("xy", [((2, 0), (0, 1))]), "S[x]^2 <= S[] S[y]")
        other = Schema("ab", [((1, 0), (0, 1))])
        self.assertEqual(claim.moved(other, [(1, 0), (1, 1)]).text(), "S[a]^2 <= S[] S[a b]")
        self.assertEqual(claim.moved(other, [(1, 0), (1, 1)]).schema, other)
        self.assertEqual(raised_by(claim.moved, Schema("ab"), [(1, 0), (1, 1)]), ("InvalidFact", 0))
        self.assertEqual(raised_by(claim.moved, other, [(0, 1), (1, 1)]), ("InvalidFact", 0))

    def test_against_moved_tables(self):
        pick = random.Random(65)
        done = 0
        while done < 150:
            own, other = pick.randint(1, 3), pick.randint(1, 3)
            claim = Claim(Schema("xyz"[:own]), *[
                Product(own, [(random_exponent(pick, own, 2), pick.randint(1, 3)) for _ in range(3)]) for _ in "ab"])
            images = [random_exponent(pick, other, 2) for _ in range(own)]
            sums = [exponent for side in (claim.low, claim.high) for exponent, _ in side.factors()]
            if max(max(image(exponent, images)) for exponent in sums) > 6:
                self.assertEqual(raised_by(claim.moved, Schema("abc"[:other]), images), ("TooHigh", -1))
                continue
            found = claim.moved(Schema("abc"[:other]), images)
            table, rows = random_table(pick, other, 4, 3)
            moved = Table(own, [(1, tuple(worth(row, part) for part in images)) for row in rows])
            self.assertEqual(found.sides(table), claim.sides(moved))
            self.assertIs(found(table), claim(moved))
            self.assertEqual(found.schema, Schema("abc"[:other]))
            done += 1

    def test_wrong_images(self):
        claim = read_claim(Schema("xy", [((6, 6), (0, 0))]), "S[x6] <= 1")
        other = Schema("abc")
        for wrong in ANY_VALUES + [[], [(1, 0, 0)], [(1, 0, 0)] * 3, ((1, 0, 0),), "ab", None, 2]:
            if type(wrong) not in (list, tuple) or len(wrong) != 2:
                self.assertEqual(raised_by(claim.moved, other, wrong), ("InvalidExponent", -1))
        for wrong in ANY_VALUES + [(7, 0, 0), (0, -1, 0), (0, 0), (0, 0, True), [0, 0, 0]]:
            if not is_plain_exponent(wrong, 3):
                self.assertEqual(raised_by(claim.moved, other, [wrong, wrong]), ("InvalidExponent", 0))
                self.assertEqual(raised_by(claim.moved, other, ((6, 6, 6), wrong)), ("InvalidExponent", 1))

    def test_too_high(self):
        schema = Schema("xy", [((1, 0), (0, 1)), ((0, 3), (1, 0)), ((2, 0), (0, 3))])
        claim = read_claim(schema, "S[y2] <= S[x2]")
        other = Schema("a", [((1,), (0,))])
        for images, at in (([(6,), (6,)], 1), ([(6,), (2,)], 2), ([(0,), (3,)], 1), ([(6,), (0,)], 2), ([(3,), (2,)], None),
                           ([(2,), (2,)], None)):
            self.assertEqual(raised_by(claim.moved, other, images), None if at is None else ("TooHigh", at))
        low, high = read_claim(Schema("xy"), "S[y2] <= S[x2]"), read_claim(Schema("xy"), "S[x2] <= S[y2]")
        for images, at in (([(3,), (3,)], None), ([(4,), (3,)], -1), ([(3,), (4,)], -1), ([(6,), (6,)], -1)):
            for one in (low, high):
                self.assertEqual(raised_by(one.moved, other, images), None if at is None else ("TooHigh", at))
        self.assertEqual(read_claim(Schema("x"), "S[x6] <= 1").moved(other, [(1,)]).text(), "S[a6] <= 1")

    def test_too_high_in_the_last_column(self):
        claim = read_claim(Schema("x"), "S[x2] <= S[x3]")
        self.assertEqual(raised_by(claim.moved, Schema("abc"), [(0, 0, 3)]), ("TooHigh", -1))
        self.assertEqual(claim.moved(Schema("abc"), [(0, 1, 2)]).text(), "S[b2 c4] <= S[b3 c6]")

    def test_facts_that_do_not_follow(self):
        schema = Schema("xy", [((0, 0), (1, 0)), ((1, 0), (0, 1)), ((0, 1), (2, 0))])
        claim = read_claim(schema, "S[x] <= S[y]")
        for images, facts, at in (([(1, 0), (0, 1)], [], 1), ([(0, 1), (1, 0)], [((0, 1), (1, 0))], 2),
                                  ([(1, 0), (2, 0)], [], None), ([(1, 0), (1, 0)], [], None),
                                  ([(1, 0), (0, 1)], [((1, 0), (0, 1)), ((0, 1), (2, 0))], None),
                                  ([(0, 0), (0, 1)], [], 2), ([(0, 0), (0, 1)], [((0, 1), (0, 0))], None)):
            other = Schema("ab", facts)
            self.assertEqual(raised_by(claim.moved, other, images), None if at is None else ("InvalidFact", at))

    def test_order_of_errors(self):
        schema = Schema("xy", [((1, 0), (0, 1)), ((6, 0), (0, 6))])
        claim = read_claim(schema, "S[x6] <= S[y6]")
        # The image of fact 0 does not follow, that of fact 1 is too high, and so are the sums.
        self.assertEqual(raised_by(claim.moved, Schema("ab"), [(2, 0), (0, 2)]), ("TooHigh", 1))
        self.assertEqual(raised_by(claim.moved, Schema("ab"), [(2, 0), None]), ("InvalidExponent", 1))
        self.assertEqual(raised_by(claim.moved, Schema("ab"), [(2, 0), (0, 7), (0, 2)]), ("InvalidExponent", -1))
        # The image of the fact does not follow, and the sums are too high.
        claim = read_claim(Schema("xy", [((1, 0), (0, 1))]), "S[x6] <= S[y6]")
        self.assertEqual(raised_by(claim.moved, Schema("ab"), [(2, 0), (0, 2)]), ("TooHigh", -1))
        self.assertEqual(raised_by(claim.moved, Schema("ab"), [(1, 0), (0, 1)]), ("InvalidFact", 0))

    def test_equal_sums_are_added_up(self):
        twelve = Product(2, [(exponent, at + 1) for at, exponent in enumerate(TWELVE)])
        claim = Claim(Schema("xy"), twelve, Product(2))
        self.assertEqual(claim.moved(Schema("a"), [(0,), (0,)]).low.factors(), [((0,), 78)])
        self.assertEqual(claim.moved(Schema("a"), [(1,), (1,)]).low.factors(),
                         [((0,), 1), ((1,), 2 + 5), ((2,), 3 + 6 + 9), ((3,), 4 + 7 + 10), ((4,), 8 + 11), ((5,), 12)])


if __name__ == "__main__":
    unittest.main()
