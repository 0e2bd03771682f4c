"""What solve and least_cost find, and what they refuse."""

import copy
import random
import unittest
from fractions import Fraction

from checks import is_mirror, is_solution, least_by_vertices, random_system
from dealtpowers.errors import InvalidSystem
from dealtpowers.systems import Mirror, Outcome, Solution, least_cost, solve

NO_LISTS = [None, True, False, 0, 3, -1, "", "ab", "12", Outcome([], []), Solution([], [], 1, [])]
NO_NUMBERS = [None, True, False, "", "1", [], [1], (), (1,), Outcome([], [])]


class SolveCase(unittest.TestCase):
    def check(self, rows, bounds):
        """Solves the system, and tests the paper by the rules of the document alone."""
        before = copy.deepcopy((rows, bounds))
        found = solve(rows, bounds)
        self.assertEqual((rows, bounds), before)
        self.assertIn(type(found), (Solution, Mirror))
        self.assertEqual(found.rows(), [list(row) for row in rows])
        self.assertEqual(found.bounds(), list(bounds))
        numbers = found.numbers()
        self.assertIs(type(numbers), list)
        self.assertTrue(all(type(number) is int for number in numbers))
        if type(found) is Solution:
            self.assertIs(type(found.scale), int)
            self.assertTrue(is_solution(rows, bounds, found.scale, numbers), (rows, bounds))
        else:
            self.assertTrue(is_mirror(rows, bounds, numbers), (rows, bounds))
        self.assertIs(found.holds(), True)
        self.assertIs(bool(found), type(found) is Solution)
        self.assertEqual(repr(found), f"{type(found).__name__}({len(rows)} rows)")
        return found


class SolveTest(SolveCase):
    def test_example_of_the_document(self):
        self.assertEqual([least_cost([1], [[2], [3]], [1, 1]), bool(solve([[1], [-1]], [2, -1])),
                          bool(solve([[1], [-1]], [2, -3]))], [(1, 2), False, True])

    def test_one_place(self):
        for bound in (-3, -1, 0, 1, 3):
            for worth in (-2, -1, 0, 1, 2):
                found = self.check([[worth]], [bound])
                self.assertEqual(bool(found), bound <= 0 or worth > 0)

    def test_between_two_bounds(self):
        for low in range(-3, 7):
            for high in range(-3, 7):
                found = self.check([[2], [-2]], [low, -high])
                self.assertEqual(bool(found), high >= 0 and low <= high)

    def test_a_single_point_that_is_a_fraction(self):
        found = self.check([[2, 3], [-2, -3], [1, -1], [-1, 1]], [7, -7, 1, -1])
        self.assertEqual([Fraction(number, found.scale) for number in found.numbers()], [2, 1])
        found = self.check([[3, 5], [-3, -5], [1, -1], [-1, 1]], [2, -2, 0, 0])
        self.assertEqual([Fraction(number, found.scale) for number in found.numbers()],
                         [Fraction(1, 4), Fraction(1, 4)])

    def test_no_rows(self):
        for rows, bounds in (([], []), ((), ()), ([], ()), ((), [])):
            found = self.check(rows, bounds)
            self.assertIs(type(found), Solution)
            self.assertEqual([found.numbers(), found.rows(), found.bounds()], [[], [], []])

    def test_rows_of_zeros(self):
        self.assertTrue(self.check([[0]], [0]))
        self.assertTrue(self.check([[0, 0, 0]], [-4]))
        self.assertFalse(self.check([[0, 0, 0]], [1]))
        self.assertTrue(self.check([[0, 0], [1, 2], [0, 0]], [0, 3, -1]))
        self.assertFalse(self.check([[1, 2], [0, 0], [3, 1]], [3, 2, 1]))
        self.assertTrue(self.check([[0] * 60] * 60, [0] * 60))

    def test_places_of_zeros(self):
        self.assertTrue(self.check([[0, 1], [0, -1]], [1, -1]))
        self.assertFalse(self.check([[0, 1], [0, -1]], [2, -1]))

    def test_equal_rows(self):
        self.assertTrue(self.check([[1, -2]] * 5, [1, 2, 3, 4, 5]))
        self.assertTrue(self.check([[1, -2]] * 60, [3] * 60))
        self.assertFalse(self.check([[-1, -2]] * 5, [0, 0, 0, 1, 0]))

    def test_turned_rows(self):
        pick = random.Random(11)
        for _ in range(150):
            rows, bounds = random_system(pick, pick.randint(1, 4), pick.randint(1, 4), 4, pick.random() < 0.7)
            turned = [[-part for part in row] for row in rows]
            for more in (0, 1):
                found = self.check(rows + turned, bounds + [-bound - more + 1 for bound in bounds])
                if more == 0:
                    self.assertFalse(found)

    def test_many_small_systems(self):
        pick = random.Random(5)
        for _ in range(1500):
            most = pick.choice([1, 2, 5, 100])
            self.check(*random_system(pick, pick.randint(1, 7), pick.randint(1, 7), most, pick.random() < 0.5))

    def test_systems_with_a_point_have_solutions(self):
        pick = random.Random(6)
        for _ in range(200):
            found = self.check(*random_system(pick, pick.randint(1, 9), pick.randint(1, 9), 6, True))
            self.assertIs(type(found), Solution)

    def test_tuples_may_be_passed(self):
        for rows, bounds in ((((2, 3), (-1, -1)), (4, -2)), ([(2, 3), [-1, -1]], (4, -1))):
            found = self.check(rows, bounds)
            self.assertEqual(found.numbers(), solve([list(row) for row in rows], list(bounds)).numbers())
        self.assertTrue(solve(bounds=[1], rows=[[1]]))

    def test_equal_calls_return_equal_papers(self):
        pick = random.Random(9)
        for _ in range(50):
            rows, bounds = random_system(pick, 5, 5, 9)
            one, other = solve(rows, bounds), solve(tuple(rows), tuple(bounds))
            self.assertEqual([repr(one), one.numbers()], [repr(other), other.numbers()])


class LargeTest(SolveCase):
    def test_long_lists_of_small_numbers(self):
        pick = random.Random(2)
        for most in (1, 1, 9, 10 ** 6):
            for inner in (True, False):
                rows, bounds = random_system(pick, 60, 60, most, inner)
                found = self.check(rows, bounds)
                self.assertTrue(found or not inner)
                self.assertEqual(least_cost([0] * 60, rows, bounds), (0, 1) if found else None)

    def test_bounds_of_zero(self):
        # Each step from the point of zeros stands still if steps are chosen without care.
        pick = random.Random(4)
        for _ in range(3):
            rows = [[pick.randint(-6, 6) for _ in range(60)] for _ in range(59)] + [[1] * 60]
            self.check(rows, [0] * 59 + [1])

    def test_lists_of_very_different_lengths(self):
        pick = random.Random(8)
        for many, places in ((60, 1), (1, 60), (60, 3), (3, 60), (80, 70)):
            for inner in (True, False):
                self.check(*random_system(pick, many, places, 20, inner))

    def test_one_sum_for_each_row_and_column(self):
        size = 7
        rows, bounds = [], []
        for at in range(size):
            for line in ([int(place // size == at) for place in range(size * size)],
                         [int(place % size == at) for place in range(size * size)]):
                rows += [line, [-part for part in line]]
                bounds += [1, -1]
        self.assertTrue(self.check(rows, bounds))
        bounds[-1] = -2
        bounds[-2] = 2
        self.assertFalse(self.check(rows, bounds))

    def test_numbers_of_60_digits(self):
        pick = random.Random(3)
        for many, places in ((1, 1), (5, 5), (20, 20), (12, 30), (30, 12)):
            for inner in (True, False):
                self.check(*random_system(pick, many, places, 10 ** 60 - 1, inner))

    def test_long_lists_of_long_numbers(self):
        self.check(*random_system(random.Random(0), 60, 60, 10 ** 60 - 1))

    def test_returned_values_may_be_passed(self):
        pick = random.Random(21)
        for _ in range(20):
            rows, bounds = random_system(pick, 6, 6, 10 ** 60 - 1)
            numbers = solve(rows, bounds).numbers()
            rows[2] = [-number for number in numbers]
            rows[3] = numbers
            self.check(rows, bounds)
            self.check(rows, numbers)


class LeastCostTest(unittest.TestCase):
    def test_known_ones(self):
        self.assertEqual(least_cost([1], [[1]], [0]), (0, 1))
        self.assertEqual(least_cost([1], [[1]], [-5]), (0, 1))
        self.assertEqual(least_cost([3], [[2]], [5]), (15, 2))
        self.assertEqual(least_cost([4], [[2]], [5]), (10, 1))
        self.assertEqual(least_cost([1, 1], [[1, 2], [2, 1]], [3, 3]), (2, 1))
        self.assertEqual(least_cost([2, 3], [[1, 1]], [10]), (20, 1))
        self.assertEqual(least_cost([5, 3], [[1, 1], [-1, 0]], [10, -4]), (30, 1))
        self.assertEqual(least_cost([5, 3], [[1, 1], [0, -1]], [10, -4]), (42, 1))
        self.assertEqual(least_cost([1, 1, 1], [[1, 1, 0], [0, 1, 1], [1, 0, 1]], [1, 1, 1]), (3, 2))

    def test_no_point(self):
        self.assertIsNone(least_cost([1], [[1], [-1]], [2, -1]))
        self.assertIsNone(least_cost([0, 0], [[0, 0]], [1]))
        self.assertIsNone(least_cost([0, 7], [[-1, -1]], [1]))

    def test_no_rows(self):
        for costs in ([], [0], [5], [1, 2, 3], (4,), (), [10 ** 60 - 1] * 60):
            self.assertEqual(least_cost(costs, [], []), (0, 1))
            self.assertEqual(least_cost(costs, (), ()), (0, 1))

    def test_costs_of_0(self):
        self.assertEqual(least_cost([0], [[2]], [5]), (0, 1))
        self.assertEqual(least_cost([0, 1], [[1, 1]], [5]), (0, 1))
        self.assertEqual(least_cost([0, 1], [[1, 1], [-1, 0]], [5, -2]), (3, 1))
        self.assertEqual(least_cost([0, 0, 2], [[1, -1, 1], [-1, 1, 1]], [1, 1]), (2, 1))

    def test_against_all_vertices(self):
        pick = random.Random(13)
        for _ in range(400):
            places = pick.randint(1, 3)
            rows, bounds = random_system(pick, pick.randint(1, 5), places, pick.choice([1, 3, 20]), pick.random() < 0.6)
            costs = [pick.choice([0, 0, 1, 2, 9, 10]) for _ in range(places)]
            self.assertEqual(least_cost(costs, rows, bounds), least_by_vertices(costs, rows, bounds),
                             (costs, rows, bounds))

    def test_against_mirrors(self):
        # A point with the least cost is there, and a Mirror shows that none costs a little less.
        pick = random.Random(14)
        for _ in range(60):
            rows, bounds = random_system(pick, 8, 8, 7, True)
            costs = [pick.choice([0, 1, 3, 8]) for _ in range(8)]
            top, bottom = least_cost(costs, rows, bounds)
            for less, wanted in ((0, True), (1, False)):
                row = [-cost * bottom * 10 ** 9 for cost in costs]
                found = solve(rows + [row], bounds + [-top * 10 ** 9 + less])
                self.assertTrue(found.holds())
                self.assertEqual(bool(found), wanted)

    def test_deep_corners(self):
        # The steps of this system visit each of its 2 ** 20 corners if they are chosen without care.
        size = 20
        rows = [[2 ** (at - place + 1) if place < at else int(place == at) for at in range(size)]
                for place in range(size)]
        bounds = [2 ** (size - 1 - place) for place in range(size)]
        self.assertEqual(least_cost([5 ** (at + 1) for at in range(size)], rows, bounds), (5 ** size, 1))

    def test_long_numbers(self):
        pick = random.Random(15)
        size = 12
        rows = [[pick.randint(0, 10 ** 60 - 1) for _ in range(size)] for _ in range(size)]
        point = [pick.randint(1, 9) for _ in range(size)]
        lots = [pick.randint(1, 9) for _ in range(size)]
        bounds = [sum(a * b for a, b in zip(row, point)) for row in rows]
        costs = [sum(row[at] * lot for row, lot in zip(rows, lots)) for at in range(size)]
        self.assertEqual(least_cost(costs, rows, bounds), (sum(a * b for a, b in zip(costs, point)), 1))

    def test_arguments_stay_and_may_be_tuples(self):
        costs, rows, bounds = [2, 3], [[1, 1], [0, 1]], [10, 1]
        self.assertEqual(least_cost(costs=costs, rows=rows, bounds=bounds), (21, 1))
        self.assertEqual((costs, rows, bounds), ([2, 3], [[1, 1], [0, 1]], [10, 1]))
        self.assertEqual(least_cost((2, 3), ((1, 1), (0, 1)), (10, 1)), (21, 1))
        self.assertIs(type(least_cost(costs, rows, bounds)), tuple)


class WrongSystemsTest(unittest.TestCase):
    def assert_at(self, at, call, *arguments):
        with self.assertRaises(InvalidSystem) as caught:
            call(*arguments)
        self.assertEqual(caught.exception.at, at, arguments)
        self.assertEqual(caught.exception.code, "InvalidSystem")

    def assert_system(self, at, rows, bounds):
        self.assert_at(at, solve, rows, bounds)
        for costs in ([1], [1, 1], None, [-1], []):
            self.assert_at(at, least_cost, costs, rows, bounds)

    def test_no_lists(self):
        for wrong in NO_LISTS:
            self.assert_system(-1, wrong, [1])
            self.assert_system(-1, [[1]], wrong)
            self.assert_system(-1, wrong, wrong)
            self.assert_system(-1, [], wrong)
            self.assert_system(-1, wrong, [])

    def test_lists_of_two_lengths(self):
        self.assert_system(-1, [[1]], [])
        self.assert_system(-1, [], [1])
        self.assert_system(-1, [[1], [2]], [1])
        self.assert_system(-1, [None], [1, 2])

    def test_rows_that_are_no_lists(self):
        for wrong in NO_LISTS:
            self.assert_system(0, [wrong], [1])
            self.assert_system(0, [wrong, wrong], [1, 2])
            self.assert_system(1, [[1], wrong, wrong], [1, 2, 3])

    def test_rows_without_items(self):
        self.assert_system(0, [[]], [1])
        self.assert_system(0, [(), ()], [1, 1])
        self.assert_system(2, [[1], [2], []], [1, 2, 3])

    def test_rows_with_other_items(self):
        for wrong in NO_NUMBERS:
            self.assert_system(0, [[wrong]], [1])
            self.assert_system(0, [[1, wrong], [wrong, 1]], [1, 1])
            self.assert_system(1, [[1, 1], [wrong, 1], [1]], [1, 1, 1])
            self.assert_system(2, [(1, 1), (1, 1), (1, wrong)], (1, 1, 1))

    def test_rows_of_other_lengths(self):
        self.assert_system(1, [[1, 2], [1], [1, 2]], [1, 2, 3])
        self.assert_system(2, [[1], [1], [1, 2]], [1, 2, 3])
        self.assert_system(1, [[1], [1, 2], [1, 2]], [1, 2, 3])

    def test_bounds_that_are_no_numbers(self):
        for wrong in NO_NUMBERS:
            self.assert_system(0, [[1], [1]], [wrong, wrong])
            self.assert_system(1, [[1], [1]], [1, wrong])
            self.assert_system(1, [[1], [1], [1, 2]], [1, wrong, 1])

    def test_the_first_row_counts(self):
        self.assert_system(0, [[1], [True]], [None, 1])
        self.assert_system(1, [[1], [True], [1]], [1, 1, "a"])
        self.assert_system(1, [[1], [1], None], [1, None, 1])

    def test_wrong_costs(self):
        for wrong in NO_LISTS:
            self.assert_at(-1, least_cost, wrong, [[1, 2]], [1])
            self.assert_at(-1, least_cost, wrong, [], [])
        for wrong in NO_NUMBERS + [-1, -10 ** 60]:
            self.assert_at(-1, least_cost, [wrong, 1], [[1, 2]], [1])
            self.assert_at(-1, least_cost, [1, wrong], [[1, 2]], [1])
            self.assert_at(-1, least_cost, [wrong], [], [])
            self.assert_at(-1, least_cost, [1, 2, wrong], (), ())
        for wrong in ([], [1], [1, 2, 3], ()):
            self.assert_at(-1, least_cost, wrong, [[1, 2]], [1])

    def test_wrong_costs_count_without_a_point_too(self):
        self.assert_at(-1, least_cost, [-1], [[0]], [1])
        self.assert_at(-1, least_cost, [], [[0]], [1])

    def test_the_system_is_checked_ahead_of_the_costs(self):
        self.assert_at(1, least_cost, None, [[1], None], [1, 1])
        self.assert_at(0, least_cost, [-1], [[]], [1])


if __name__ == "__main__":
    unittest.main()
