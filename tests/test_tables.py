"""Tables, held against plain lists of rows."""

import random
import unittest

from dealtpowers.errors import InvalidExponent
from dealtpowers.schemas import Schema
from dealtpowers.tables import Table
from samples import (ANY_VALUES, OBJECTS, PLAIN, grouped, is_plain_exponent, is_tuple_of, keeps, plain_sum, raised_by,
                     random_exponent, random_facts, random_groups, rows_of)

LONG = 10 ** 60 - 1
ENDLESS = 10 ** 70


def is_plain_group(value, width):
    return (type(value) is tuple and len(value) == 2 and type(value[0]) is int and value[0] >= 1
            and is_tuple_of(value[1], width, 1, ENDLESS))


def is_plain_power_group(value, width):
    return (type(value) is tuple and len(value) == 2 and type(value[0]) is int and value[0] >= 0
            and is_tuple_of(value[1], width, 0, ENDLESS))


def row_products(ones, others):
    return [tuple(a * b for a, b in zip(one, other)) for one in ones for other in others]


def many_rows(many):
    """So many groups with different rows, not in order."""
    return [(1 + at % 3, (at * 37 % 1009 + 1, at % 2 + 1)) for at in range(many)]


class TableCase(unittest.TestCase):
    def check(self, table, rows):
        """Tests a table against its plain rows."""
        self.assertIs(type(table), Table)
        self.assertEqual(table.width, len(rows[0]))
        self.assertEqual(table.groups(), grouped(rows))
        self.assertIs(type(table.groups()), list)
        self.assertEqual(table.size, len(rows))
        self.assertEqual(repr(table), f"Table({len(set(rows))} groups)")


class GroupsTest(TableCase):
    def test_put_together_and_sorted(self):
        pick = random.Random(51)
        for _ in range(200):
            width = pick.randint(1, 3)
            groups = random_groups(pick, width, pick.randint(1, 12), pick.choice([2, 9]))
            for given in (groups, tuple(groups)):
                self.check(Table(width, given), rows_of(groups))
        self.check(Table(groups=[(1, (2,))], width=1), [(2,)])

    def test_long_numbers(self):
        table = Table(3, [(LONG, (LONG, 1, LONG)), (LONG, (LONG, 1, LONG)), (1, (1, 1, 1))])
        self.assertEqual(table.groups(), [(1, (1, 1, 1)), (2 * LONG, (LONG, 1, LONG))])
        self.assertEqual(table.size, 2 * LONG + 1)

    def test_100_and_101_different_rows(self):
        self.assertEqual([Table.MOST, Table(1, [(1, (1,))]).MOST], [100, 100])
        for many in (99, 100):
            groups = many_rows(many)
            self.check(Table(2, groups), rows_of(groups))
            self.check(Table(2, groups + groups[:5]), rows_of(groups + groups[:5]))
        for many in (101, 102, 150):
            self.assertEqual(raised_by(Table, 2, many_rows(many)), ("TooMany", 100))

    def test_wrong_widths(self):
        for wrong in ANY_VALUES + [4, 0, -1, 10 ** 60]:
            if type(wrong) is not int or wrong not in (1, 2, 3):
                self.assertEqual(raised_by(Table, wrong, [(1, (1,))]), ("InvalidNumber", wrong))
                self.assertEqual(raised_by(Table, wrong, None), ("InvalidNumber", wrong))

    def test_no_lists(self):
        for wrong in ANY_VALUES + [[], ()]:
            if type(wrong) not in (list, tuple) or not wrong:
                self.assertEqual(raised_by(Table, 1, wrong), ("InvalidGroup", -1))
                self.assertEqual(raised_by(Table, width=3, groups=wrong), ("InvalidGroup", -1))

    def test_wrong_groups(self):
        good = (1, (1,))
        for wrong in ANY_VALUES + [(0, (1,)), (-1, (1,)), (True, (1,)), ("1", (1,)), (None, (1,)), (1, (0,)), (1, (-1,)),
                                   (1, [1]), [1, (1,)], (1, (1,), 1), (1,), ((1,), 1), (1, (1, 1)), (1, ()), (1, 1),
                                   (1, (True,)), (1, ("1",)), (1, None)]:
            if not is_plain_group(wrong, 1):
                self.assertEqual(raised_by(Table, 1, [wrong]), ("InvalidGroup", 0), wrong)
                self.assertEqual(raised_by(Table, 1, (good, wrong, wrong)), ("InvalidGroup", 1), wrong)

    def test_order_of_errors(self):
        self.assertEqual(raised_by(Table, 2, many_rows(101) + [(0, (1, 1))]), ("InvalidGroup", 101))
        self.assertEqual(raised_by(Table, 4, many_rows(101)), ("InvalidNumber", 4))
        self.assertEqual(raised_by(Table, 1, many_rows(101)), ("InvalidGroup", 0))
        self.assertEqual(raised_by(Table, 0, []), ("InvalidNumber", 0))

    def test_what_is_passed_and_returned_may_change(self):
        groups = [(1, (2,))]
        table = Table(1, groups)
        groups.append((5, (6,)))
        table.groups().append((5, (6,)))
        self.check(table, [(2,)])


class PowersTest(TableCase):
    def test_against_plain_groups(self):
        pick = random.Random(52)
        for _ in range(150):
            width = pick.randint(1, 3)
            base = pick.choice([1, 2, 3, 10])
            groups = [(pick.randint(0, 2), random_exponent(pick, width, pick.choice([1, 9])))
                      for _ in range(pick.randint(1, 6))]
            rows = [tuple(base ** part for part in direction)
                    for times, direction in groups for _ in range(base ** times)]
            for given in (groups, tuple(groups)):
                self.check(Table.powers(width, base, given), rows)

    def test_by_hand(self):
        self.assertEqual(Table.powers(groups=[(0, (1,)), (3, (1,)), (2, (0,))], base=2, width=1).groups(),
                         [(4, (1,)), (9, (2,))])
        self.assertEqual(Table.powers(2, 10, [(60, (60, 0))]).groups(), [(10 ** 60, (10 ** 60, 1))])

    def test_base_1(self):
        groups = [(LONG, (at, LONG, 0)) for at in range(150)]
        self.assertEqual(Table.powers(3, 1, groups).groups(), [(150, (1, 1, 1))])

    def test_100_and_101_different_rows(self):
        groups = [(at % 3, (at, 0)) for at in range(100)]
        self.assertEqual(len(Table.powers(2, 2, groups + groups).groups()), 100)
        for more in ((0, (100, 0)), (0, (0, LONG)), (LONG, (LONG, LONG))):
            self.assertEqual(raised_by(Table.powers, 2, 2, groups + [more]), ("TooMany", 100))

    def test_wrong_widths_and_bases(self):
        for wrong in ANY_VALUES + [4, 0, -1, 10 ** 60]:
            if type(wrong) is not int or wrong not in (1, 2, 3):
                self.assertEqual(raised_by(Table.powers, wrong, 2, [(1, (1,))]), ("InvalidNumber", wrong))
                self.assertEqual(raised_by(Table.powers, wrong, "no base", None), ("InvalidNumber", wrong))
            if type(wrong) is not int or wrong < 1:
                self.assertEqual(raised_by(Table.powers, 1, wrong, [(1, (1,))]), ("InvalidNumber", wrong))
                self.assertEqual(raised_by(Table.powers, 1, wrong, None), ("InvalidNumber", wrong))

    def test_wrong_groups(self):
        good = (0, (0,))
        for wrong in ANY_VALUES + [[], ()]:
            if type(wrong) not in (list, tuple) or not wrong:
                self.assertEqual(raised_by(Table.powers, 1, 2, wrong), ("InvalidGroup", -1))
        for wrong in ANY_VALUES + [(-1, (1,)), (False, (1,)), ("1", (1,)), (1, (-1,)), (1, [1]), [1, (1,)], (1, (1,), 1),
                                   (1, (False,)), (1, (1, 1)), (1, ()), (1, 1), (None, (1,)), (1, (None,))]:
            if not is_plain_power_group(wrong, 1):
                self.assertEqual(raised_by(Table.powers, 1, 2, [wrong]), ("InvalidGroup", 0), wrong)
                self.assertEqual(raised_by(Table.powers, 1, 1, (good, wrong, wrong)), ("InvalidGroup", 1), wrong)
        rows = [(0, (at,)) for at in range(101)]
        self.assertEqual(raised_by(Table.powers, 1, 2, rows + [None]), ("InvalidGroup", 101))


class SumTest(TableCase):
    def test_against_plain_sums(self):
        pick = random.Random(53)
        for _ in range(200):
            width = pick.randint(1, 3)
            groups = random_groups(pick, width, pick.randint(1, 6), pick.choice([3, LONG]))
            exponent = random_exponent(pick, width)
            table = Table(width, groups)
            self.assertEqual(table.sum_of(exponent), plain_sum(rows_of(groups), exponent))
            self.assertEqual(table.sum_of(exponent=exponent), table.sum_of(exponent))
            self.assertEqual(table.sum_of((0,) * width), table.size)

    def test_wrong_exponents(self):
        for table in (Table(1, [(1, (1,))]), Table(2, [(1, (2, 3))])):
            for wrong in ANY_VALUES + [(7,), (-1,), (7, 0), (0, -1), (True, 1), [1, 1]]:
                if not is_plain_exponent(wrong, table.width):
                    with self.assertRaises(InvalidExponent) as caught:
                        table.sum_of(wrong)
                    self.assertEqual(caught.exception.given, wrong)
                    self.assertIs(type(caught.exception.given), type(wrong))


class ArithmeticTest(TableCase):
    def test_union_and_product(self):
        pick = random.Random(54)
        for _ in range(150):
            width = pick.randint(1, 3)
            one, other = [random_groups(pick, width, pick.randint(1, 4), pick.choice([2, 9])) for _ in "ab"]
            ones, others = rows_of(one), rows_of(other)
            union, product = Table(width, one) + Table(width, other), Table(width, one) * Table(width, other)
            self.check(union, ones + others)
            self.check(product, row_products(ones, others))
            for exponent in [random_exponent(pick, width) for _ in range(3)]:
                sums = [plain_sum(rows, exponent) for rows in (ones, others)]
                self.assertEqual([union.sum_of(exponent), product.sum_of(exponent)], [sum(sums), sums[0] * sums[1]])
            self.check(Table(width, one), ones)

    def test_too_many(self):
        hundred = Table(2, many_rows(100))
        self.assertEqual(hundred + hundred, Table(2, many_rows(100) * 2))
        self.assertEqual(raised_by(lambda: hundred + Table(2, [(1, (5000, 1))])), ("TooMany", 100))
        self.assertEqual(raised_by(lambda: hundred * Table(2, [(1, (1, 1)), (1, (1, 2))])), ("TooMany", 100))
        self.assertEqual(raised_by(lambda: hundred * hundred), ("TooMany", 100))
        self.assertEqual(len((hundred * Table(2, [(7, (1, 9))])).groups()), 100)
        one, other = [Table(1, [(1, (base ** at,)) for at in range(10)]) for base in (2, 3)]
        self.assertEqual(len((one * other).groups()), 100)
        ten = Table(1, [(1, (3 ** at,)) for at in range(11)])
        self.assertEqual(raised_by(lambda: one * ten), ("TooMany", 100))

    def test_widths_that_differ(self):
        for one in (1, 2, 3):
            for other in (1, 2, 3):
                first, second = [Table(width, [(1, (2,) * width)]) for width in (one, other)]
                wanted = None if one == other else ("WrongWidth", other)
                self.assertEqual(raised_by(lambda: first + second), wanted)
                self.assertEqual(raised_by(lambda: first * second), wanted)
        hundred = Table(2, many_rows(100))
        self.assertEqual(raised_by(lambda: hundred + Table(1, [(1, (1,))])), ("WrongWidth", 1))
        self.assertEqual(raised_by(lambda: Table(3, [(1, (1, 1, 1))]) * hundred), ("WrongWidth", 2))

    def test_to_the(self):
        pick = random.Random(55)
        for _ in range(20):
            width = pick.randint(1, 3)
            groups = [(1, row) for _, row in random_groups(pick, width, pick.randint(1, 3))]
            rows = [(1,) * width]
            for number in range(5):
                for found in (Table(width, groups).to_the(number), Table(width, groups).to_the(number=number),
                              Table(width, groups) ** number):
                    self.check(found, rows)
                rows = row_products(rows, rows_of(groups))

    def test_to_the_60(self):
        table = Table(1, [(1, (1,)), (1, (2,))]) ** 60
        self.assertEqual([len(table.groups()), table.size, table.sum_of((1,)), table.sum_of((6,))],
                         [61, 2 ** 60, 3 ** 60, 65 ** 60])
        long = Table(3, [(LONG, (LONG, 1, 2))]) ** 60
        self.assertEqual(long.groups(), [(LONG ** 60, (LONG ** 60, 1, 2 ** 60))])
        self.assertEqual(Table(2, many_rows(100)) ** 0, Table(2, [(1, (1, 1))]))
        self.assertEqual(Table(2, many_rows(100)) ** 1, Table(2, many_rows(100)))

    def test_to_the_with_too_many(self):
        self.assertEqual(raised_by(Table(2, many_rows(100)).to_the, 2), ("TooMany", 100))
        primes = Table(1, [(1, (2,)), (1, (3,)), (1, (5,))])
        self.assertEqual(len(primes.to_the(12).groups()), 91)
        for number in (13, 60):
            self.assertEqual(raised_by(primes.to_the, number), ("TooMany", 100))

    def test_raised(self):
        pick = random.Random(56)
        for _ in range(60):
            width = pick.randint(1, 3)
            groups = random_groups(pick, width, pick.randint(1, 5), 3)
            table = Table(width, groups)
            for number in (0, 1, 2, 3, 59, 60):
                rows = [tuple(part ** number for part in row) for row in rows_of(groups)]
                self.check(table.raised(number), rows)
                self.assertEqual(table.raised(number=number), table.raised(number))
            for exponent in [(1,) * width, (2,) + (0,) * (width - 1)]:
                tripled = tuple(3 * part for part in exponent)
                self.assertEqual(table.raised(3).sum_of(exponent), table.sum_of(tripled))
        self.assertEqual(Table(1, [(2, (LONG,))]).raised(60).groups(), [(2, (LONG ** 60,))])

    def test_wrong_numbers(self):
        table = Table(2, many_rows(100))
        for wrong in ANY_VALUES + [-1, 61, 62, LONG, -LONG]:
            if type(wrong) is not int or not 0 <= wrong <= 60:
                for call in (table.to_the, table.raised, lambda wrong: table ** wrong):
                    self.assertEqual(raised_by(call, wrong), ("InvalidNumber", wrong))


class KeepsTest(TableCase):
    def test_against_plain_rows(self):
        pick = random.Random(57)
        seen = set()
        for _ in range(200):
            width = pick.randint(1, 3)
            facts = random_facts(pick, width, pick.randint(0, 2), 2)
            groups = random_groups(pick, width, pick.randint(1, 3), 3)
            schema = Schema("xyz"[:width], facts)
            kept = Table(width, groups).keeps(schema)
            self.assertIs(kept, all(keeps(row, facts) for _, row in groups))
            self.assertIs(Table(width, groups).keeps(schema=schema), kept)
            seen.add(kept)
        self.assertEqual(seen, {True, False})

    def test_the_last_row_counts(self):
        schema = Schema("xy", [((1, 0), (0, 1))])
        self.assertIs(Table(2, [(1, (1, 1)), (1, (2, 2)), (1, (3, 4))]).keeps(schema), True)
        self.assertIs(Table(2, [(1, (1, 1)), (1, (2, 2)), (1, (4, 3))]).keeps(schema), False)
        self.assertIs(Table(2, [(1, (2, 1)), (1, (3, 3))]).keeps(schema), False)

    def test_widths_that_differ(self):
        for one in (1, 2, 3):
            for other in (1, 2, 3):
                wanted = None if one == other else ("WrongWidth", other)
                self.assertEqual(raised_by(Table(one, [(1, (1,) * one)]).keeps, Schema("xyz"[:other])), wanted)


class EqualTest(TableCase):
    def test_equal(self):
        different = [Table(1, [(1, (1,))]), Table(1, [(2, (1,))]), Table(1, [(1, (2,))]), Table(2, [(1, (1, 1))]),
                     Table(3, [(1, (1, 1, 1))]), Table(1, [(1, (1,)), (1, (2,))]), Table(1, [(1, (1,)), (2, (2,))])]
        for at, table in enumerate(different):
            again = Table(table.width, tuple(reversed(table.groups())))
            self.assertIs(table == again, True)
            self.assertIs(table != again, False)
            for other in different[:at]:
                self.assertIs(table == other, False)
                self.assertIs(table != other, True)
        self.assertEqual(Table(1, [(1, (2,)), (1, (1,)), (3, (2,))]), Table(1, [(1, (1,)), (4, (2,))]))

    def test_nothing_else(self):
        table = Table(1, [(1, (1,))])
        for value in PLAIN + [item for item in OBJECTS if type(item) is not Table] + ["Table(1 groups)", [(1, (1,))]]:
            self.assertIs(table == value, False)
            self.assertIs(value == table, False)
            self.assertIs(table != value, True)


if __name__ == "__main__":
    unittest.main()
