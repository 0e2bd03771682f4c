"""Products of powers of sums."""

import random
import unittest

from dealtpowers.products import Product
from dealtpowers.tables import Table
from samples import (ANY_VALUES, OBJECTS, PLAIN, box, is_plain_exponent, plain_worth, raised_by, random_exponent,
                     random_factors, random_groups, rows_of)

LONG = 10 ** 60 - 1


def added_up(factors):
    """The factors in order, those of equal exponents added up."""
    return [(exponent, sum(power for other, power in factors if other == exponent))
            for exponent in sorted({exponent for exponent, _ in factors})]


def is_plain_factor(value, width):
    return (type(value) is tuple and len(value) == 2 and is_plain_exponent(value[0], width)
            and type(value[1]) is int and value[1] >= 1)


class FactorsTest(unittest.TestCase):
    def test_none(self):
        for width in (1, 2, 3):
            for product in (Product(width), Product(width, []), Product(width, ()), Product.of(width=width)):
                self.assertEqual([product.width, product.factors(), len(product), bool(product), repr(product)],
                                 [width, [], 0, False, "Product(0 sums)"])

    def test_added_up_and_sorted(self):
        pick = random.Random(41)
        for _ in range(200):
            width = pick.randint(1, 3)
            pool = [random_exponent(pick, width, pick.choice([1, 6])) for _ in range(12)]
            factors = [(pick.choice(pool), pick.choice([1, 2, 7, LONG])) for _ in range(pick.randint(0, 30))]
            for given in (factors, tuple(factors)):
                product = Product(width, given)
                self.assertEqual([product.width, product.factors(), len(product), bool(product), repr(product)],
                                 [width, added_up(factors), len(added_up(factors)), bool(factors),
                                  f"Product({len(added_up(factors))} sums)"])
                self.assertIs(type(product.factors()), list)

    def test_edges_of_exponents(self):
        self.assertEqual(Product(3, [((6, 0, 6), 1), ((0, 0, 0), LONG)]).factors(),
                         [((0, 0, 0), LONG), ((6, 0, 6), 1)])

    def test_twelve_and_thirteen(self):
        self.assertEqual([Product.MOST, Product(1).MOST], [12, 12])
        exponents = box(2, 0, 3)
        for many in (11, 12):
            factors = [(exponent, 1) for exponent in exponents[:many]]
            self.assertEqual(len(Product(2, factors + factors + factors)), many)
        for many in (13, 14, 16):
            self.assertEqual(raised_by(Product, 2, [(exponent, 1) for exponent in exponents[:many]]), ("TooMany", 12))
            self.assertEqual(raised_by(Product.of, *exponents[:many], width=2), ("TooMany", 12))

    def test_wrong_widths(self):
        for wrong in ANY_VALUES + [4, 0, -1, 10 ** 60]:
            if type(wrong) is not int or wrong not in (1, 2, 3):
                self.assertEqual(raised_by(Product, wrong), ("InvalidNumber", wrong))
                self.assertEqual(raised_by(Product, wrong, None), ("InvalidNumber", wrong))
                self.assertEqual(raised_by(Product.of, (1,), width=wrong), ("InvalidNumber", wrong))
                self.assertEqual(raised_by(Product.of, None, width=wrong), ("InvalidNumber", wrong))

    def test_no_lists(self):
        for wrong in ANY_VALUES:
            if type(wrong) not in (list, tuple):
                self.assertEqual(raised_by(Product, 1, wrong), ("InvalidFactor", -1))
                self.assertEqual(raised_by(Product, width=3, factors=wrong), ("InvalidFactor", -1))

    def test_wrong_factors(self):
        good = ((1,), 1)
        for wrong in ANY_VALUES + [((1,), 0), ((1,), -1), ((1,), True), ((1,), "1"), ((1,), None), ((7,), 1), ((-1,), 1),
                                   ([1], 1), [(1,), 1], ((1,), 1, 1), ((1,),), (1, (1,)), ((1, 1), 1), ((), 1), (1, 1)]:
            if not is_plain_factor(wrong, 1):
                self.assertEqual(raised_by(Product, 1, [wrong]), ("InvalidFactor", 0), wrong)
                self.assertEqual(raised_by(Product, 1, (good, wrong, wrong)), ("InvalidFactor", 1), wrong)
                thirteen = [((at,), 1) for at in range(7)]
                self.assertEqual(raised_by(Product, 1, thirteen + [wrong]), ("InvalidFactor", 7), wrong)

    def test_order_of_errors(self):
        thirteen = [(exponent, 1) for exponent in box(2, 0, 3)[:13]]
        self.assertEqual(raised_by(Product, 2, thirteen + [((7, 0), 1)]), ("InvalidFactor", 13))
        self.assertEqual(raised_by(Product, 4, thirteen), ("InvalidNumber", 4))
        self.assertEqual(raised_by(Product, 1, thirteen), ("InvalidFactor", 0))

    def test_what_is_passed_and_returned_may_change(self):
        factors = [((1,), 2)]
        product = Product(1, factors)
        factors.append(((2,), 1))
        product.factors().append(3)
        product.factors()[0] = None
        self.assertEqual([product.factors(), len(product)], [[((1,), 2)], 1])


class OfTest(unittest.TestCase):
    def test_as_often_as_given(self):
        self.assertEqual(Product.of((1,), (0,), (1,)).factors(), [((0,), 1), ((1,), 2)])
        self.assertEqual(Product.of((1,)).width, 1)
        self.assertEqual(Product.of((1, 1), (1, 1), (0, 2), width=2).factors(), [((0, 2), 1), ((1, 1), 2)])
        self.assertEqual(Product.of(*[(0, 0, 6)] * 60, width=3).factors(), [((0, 0, 6), 60)])

    def test_wrong_exponents(self):
        for wrong in ANY_VALUES + [(7,), (-1,), (True,), [1], (1, 1)]:
            if not is_plain_exponent(wrong, 1):
                self.assertEqual(raised_by(Product.of, wrong), ("InvalidFactor", 0), wrong)
                self.assertEqual(raised_by(Product.of, (1,), (2,), wrong, wrong), ("InvalidFactor", 2), wrong)
        self.assertEqual(raised_by(Product.of, (1,), width=2), ("InvalidFactor", 0))
        self.assertEqual(raised_by(Product.of, *box(2, 0, 3), None, width=2), ("InvalidFactor", 16))


class PowerTest(unittest.TestCase):
    def test_power_and_in(self):
        product = Product(1, [((1,), 1), ((0,), 5), ((6,), LONG)])
        for exponent, power in (((1,), 1), ((0,), 5), ((6,), LONG), ((2,), 0), ((5,), 0), ((7,), 0)):
            self.assertEqual([product.power(exponent), product.power(exponent=exponent), exponent in product],
                             [power, power, power > 0])

    def test_any_value(self):
        product = Product(1, [((1,), 2), ((0,), 5), ((6,), 9)])
        for value in ANY_VALUES + [(True,), (False,), [1], [0], ([1],), (1, 0), ((1,), 2), ((1,),), "(1,)", 10 ** 60]:
            if not is_plain_exponent(value, 1):
                self.assertEqual(product.power(value), 0)
                self.assertIs(type(product.power(value)), int)
                self.assertIs(value in product, False)
        for value in ((1, True), (True, 1), (1,), (1, 1, 0)):
            self.assertEqual([Product.of((1, 1), width=2).power(value), value in Product.of((1, 1), width=2)], [0, False])


class ArithmeticTest(unittest.TestCase):
    def test_times(self):
        pick = random.Random(42)
        for _ in range(200):
            width = pick.randint(1, 3)
            one, other = [random_factors(pick, width, pick.randint(0, 6)) for _ in range(2)]
            product = Product(width, one) * Product(width, other)
            self.assertEqual(product, Product(width, one + other))
            self.assertEqual(product.factors(), added_up(one + other))

    def test_times_keeps_both(self):
        one, other = Product.of((1,), (2,)), Product.of((2,), (3,))
        self.assertEqual((one * other).factors(), [((1,), 1), ((2,), 2), ((3,), 1)])
        self.assertEqual([one, other], [Product.of((1,), (2,)), Product.of((2,), (3,))])
        self.assertEqual((one * one).factors(), [((1,), 2), ((2,), 2)])

    def test_too_many(self):
        exponents = box(2, 0, 3)
        for one, other, most in ((6, 12, 12), (12, 12, 12), (0, 12, 12), (7, 13, 13), (12, 13, 13), (12, 16, 16)):
            first = Product.of(*exponents[:one], width=2)
            second = Product.of(*exponents[one:other], width=2)
            self.assertEqual(raised_by(lambda: first * second), ("TooMany", 12) if most > 12 else None)
            self.assertEqual(raised_by(lambda: second * first), ("TooMany", 12) if most > 12 else None)

    def test_widths_that_differ(self):
        for one in (1, 2, 3):
            for other in (1, 2, 3):
                wanted = None if one == other else ("WrongWidth", other)
                self.assertEqual(raised_by(lambda: Product(one) * Product(other)), wanted)
        many = Product.of(*box(2, 0, 3)[:12], width=2)
        self.assertEqual(raised_by(lambda: many * Product.of((0, 0, 0), width=3)), ("WrongWidth", 3))

    def test_to_the(self):
        pick = random.Random(43)
        for number in (0, 1, 2, 5, 60, 61, LONG):
            width = pick.randint(1, 3)
            factors = random_factors(pick, width, 7)
            product = Product(width, factors)
            wanted = [(exponent, power * number) for exponent, power in product.factors()] if number else []
            for found in (product.to_the(number), product.to_the(number=number), product ** number):
                self.assertEqual([found.width, found.factors()], [width, wanted])
            self.assertEqual(Product(width) ** number, Product(width))
            self.assertEqual(product, Product(width, factors))

    def test_to_the_wrong_number(self):
        for product in (Product.of((1,)), Product(2)):
            for wrong in ANY_VALUES + [-1, -LONG, True, False]:
                if type(wrong) is not int or wrong < 0:
                    for call in (product.to_the, lambda wrong: product ** wrong):
                        self.assertEqual(raised_by(call, wrong), ("InvalidNumber", wrong))

    def test_returned_products_may_be_passed(self):
        product = Product.of((1,), (2,))
        for _ in range(5):
            product = product.to_the(LONG) * product
        self.assertEqual(Product(1, product.factors()), product)
        self.assertEqual(product.power((1,)), (LONG + 1) ** 5)


class WorthTest(unittest.TestCase):
    def test_against_plain_sums(self):
        pick = random.Random(44)
        for _ in range(150):
            width = pick.randint(1, 3)
            groups = random_groups(pick, width, pick.randint(1, 5))
            product = Product(width, random_factors(pick, width, pick.randint(0, 4)))
            table = Table(width, groups)
            self.assertEqual(product.worth(table), plain_worth(product.factors(), rows_of(groups)))
            self.assertEqual(product.worth(table=table), product.worth(table))

    def test_no_factors(self):
        self.assertEqual(Product(2).worth(Table(2, [(5, (3, 4))])), 1)

    def test_number_of_rows(self):
        self.assertEqual(Product.of((0,), (0,)).worth(Table(1, [(3, (5,)), (4, (6,))])), 49)

    def test_a_long_power_of_one(self):
        self.assertEqual(Product(1, [((6,), LONG)]).worth(Table(1, [(1, (1,))])), 1)
        self.assertEqual(Product(1, [((0,), 3)]).worth(Table(1, [(LONG, (LONG,))])), LONG ** 3)

    def test_widths_that_differ(self):
        for one in (1, 2, 3):
            for other in (1, 2, 3):
                table = Table(other, [(1, (1,) * other)])
                self.assertEqual(raised_by(Product(one).worth, table), None if one == other else ("WrongWidth", other))


class EqualTest(unittest.TestCase):
    def test_equal(self):
        different = [Product(1), Product(2), Product(3), Product.of((1,)), Product.of((2,)), Product.of((1,), (1,)),
                     Product.of((1,), (2,)), Product.of((1, 0), width=2), Product.of((0, 1), width=2)]
        for at, product in enumerate(different):
            again = Product(product.width, tuple(reversed(product.factors())))
            self.assertIs(product == again, True)
            self.assertIs(product != again, False)
            for other in different[:at]:
                self.assertIs(product == other, False)
                self.assertIs(product != other, True)

    def test_nothing_else(self):
        for value in PLAIN + [item for item in OBJECTS if type(item) is not Product] + ["Product(0 sums)"]:
            self.assertIs(Product(1) == value, False)
            self.assertIs(value == Product(1), False)
            self.assertIs(Product(1) != value, True)


if __name__ == "__main__":
    unittest.main()
