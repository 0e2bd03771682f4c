"""Steps that gain nothing come to an end all the same."""

import random
import unittest
from fractions import Fraction

from checks import is_mirror, is_solution
from dealtpowers.tableau import Tableau


class TableauTest(unittest.TestCase):
    def check(self, rows, bounds, costs):
        tableau = Tableau(rows, bounds, costs)
        if tableau.finish():
            scale, numbers = tableau.point()
            self.assertTrue(is_solution(rows, bounds, scale, numbers))
            return True
        self.assertTrue(is_mirror(rows, bounds, tableau.growth()))
        return False

    def test_a_system_whose_steps_can_come_round(self):
        # Beale's example, turned: each step at its costs of 0 gains nothing.
        rows = [[1, 2, 0], [-240, -180, 0], [-4, -2, 4], [36, 12, 0]]
        self.assertTrue(self.check(rows, [3, -600, 2, -24], [(0,), (0,), (1,)]))

    def test_steps_come_round_unless_the_lowest_variables_are_taken(self):
        rows = [[1, 3, 2], [-1, 0, -3], [-1, 0, 2], [3, -1, 0], [3, 0, 3]]
        self.assertTrue(self.check(rows, [8, -7, 2, 1, 8], [(0,)] * 3))
        rows = [[-1, 0, 2, -1, 0], [-1, -3, -2, -2, 3], [-1, -1, 3, 3, 2], [-2, -2, -3, 2, 3]]
        self.assertTrue(self.check(rows, [3, -9, 9, -5], [(0,)] * 5))

    def test_costs_that_are_all_equal(self):
        pick = random.Random(1)
        for _ in range(60):
            size = pick.randint(2, 14)
            rows = [[pick.choice([-1, 0, 0, 1]) for _ in range(size)] for _ in range(size)] + [[1] * size]
            self.check(rows, [0] * size + [1], [(1,)] * size)

    def test_costs_that_are_all_0(self):
        pick = random.Random(2)
        for _ in range(200):
            size = pick.randint(1, 8)
            rows = [[pick.randint(-2, 2) for _ in range(size)] for _ in range(size)]
            self.check(rows, [pick.randint(-2, 2) for _ in range(size)], [(0,)] * size)

    def test_rows_that_come_later(self):
        pick = random.Random(3)
        for _ in range(200):
            places, many = pick.randint(1, 5), pick.randint(1, 8)
            rows = [[pick.randint(-2, 3) for _ in range(places)] for _ in range(many)]
            bounds = [pick.randint(-2, 3) for _ in range(many)]
            costs = [(pick.randint(0, 3), pick.randint(1, 9)) for _ in range(places)]
            whole = Tableau(rows, bounds, costs)
            first = pick.randint(0, many)
            parts = Tableau(rows[:first], bounds[:first], costs)
            if whole.finish() and parts.finish():
                parts.widen(rows[first:], bounds[first:])
                self.assertTrue(parts.finish())
                self.assertEqual(self.sum_of(parts, bounds), self.sum_of(whole, bounds))
                self.check_amounts(parts, rows, costs)

    def test_rows_that_are_left_out(self):
        # With the others away, those that come anew are counted on from all that ever were there.
        tableau = Tableau([[1, 0], [0, 1], [1, 1]], [1, 2, 1], [(2, 1), (3, 1)])
        self.assertTrue(tableau.finish())
        self.assertEqual(tableau.amounts(), (1, [2, 3, 0]))
        tableau.narrow(1)
        tableau.widen([[1, 1]], [4])
        self.assertTrue(tableau.finish())
        self.assertEqual(tableau.amounts(), (1, [0, 1, 0, 2]))
        # The sum has grown, so rows are left out again; then it has not.
        tableau.narrow(0)
        tableau.widen([[1, 0]], [1])
        self.assertTrue(tableau.finish())
        tableau.narrow(0)
        self.assertEqual(tableau.amounts(), (1, [0, 1, 0, 2, 0]))

    def sum_of(self, tableau, bounds):
        scale, numbers = tableau.amounts()
        return Fraction(sum(bound * number for bound, number in zip(bounds, numbers)), scale)

    def check_amounts(self, tableau, rows, costs):
        """Amounts are from 0 on, and no place costs more than it may."""
        scale, numbers = tableau.amounts()
        self.assertTrue(scale >= 1 and min(numbers) >= 0)
        for at, cost in enumerate(costs):
            self.assertLessEqual(sum(row[at] * number for row, number in zip(rows, numbers)), cost[0] * scale)


if __name__ == "__main__":
    unittest.main()
