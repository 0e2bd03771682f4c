"""Outcomes, Solutions and Mirrors that are made by hand."""

import unittest

from dealtpowers.systems import Mirror, Outcome, Solution, solve

ROWS = [[2, 3], [-1, 1]]
BOUNDS = [7, -1]
WITHOUT = [[1, 1], [-1, 0], [0, -1]]
WITHOUT_BOUNDS = [5, -2, -2]
ANY_VALUES = [None, True, False, 0, 3, -3, "", "ab", "12", (), [], [[1, 1]], ([1], 1), [1, [1]], [None, 1],
              [True, True], ["1", "1"], [1, 1, 1], (1,), Outcome([], []), [Outcome([], []), 1]]


class SolutionTest(unittest.TestCase):
    def holds(self, scale, numbers, rows=ROWS, bounds=BOUNDS):
        return Solution(rows, bounds, scale, numbers).holds()

    def test_right_ones(self):
        self.assertIs(self.holds(1, [2, 1]), True)
        self.assertIs(self.holds(1, (2, 1)), True)
        self.assertIs(self.holds(5, [10, 5]), True)
        self.assertIs(self.holds(3, [0, 7]), True)
        self.assertIs(self.holds(10 ** 60, [2 * 10 ** 60, 10 ** 60]), True)

    def test_wrong_ones(self):
        self.assertIs(self.holds(2, [2, 1]), False)
        self.assertIs(self.holds(1, [2, 0]), False)
        self.assertIs(self.holds(1, [9, 1]), False)
        self.assertIs(self.holds(4, [0, 9]), False)
        self.assertIs(self.holds(10 ** 60, [2 * 10 ** 60, 10 ** 60 - 1]), False)

    def test_numbers_below_0(self):
        rows, bounds = [[1, 1], [-1, -1]], [-9, -9]
        self.assertIs(self.holds(1, [0, 0], rows, bounds), True)
        self.assertIs(self.holds(1, [-1, 0], rows, bounds), False)
        self.assertIs(self.holds(1, [3, -1], rows, bounds), False)

    def test_wrong_scales(self):
        rows, bounds = [[1, 1]], [0]
        self.assertIs(self.holds(1, [1, 1], rows, bounds), True)
        for scale in (0, -1, -10 ** 60, None, True, "1", [1], (1,),
                      Outcome([], [])):
            self.assertIs(self.holds(scale, [1, 1], rows, bounds), False)

    def test_numbers_of_other_lengths(self):
        for numbers in ([], [2], [2, 1, 0], (2, 1, 0), ()):
            self.assertIs(self.holds(1, numbers), False)
        for numbers in ([], [1], (1,), [1, 0, 0], [1, 0, 5]):
            self.assertIs(self.holds(1, numbers, [[1, 0]], [0]), False)
        self.assertIs(self.holds(1, [1, 0], [[1, 0]], [0]), True)

    def test_numbers_of_any_values(self):
        for value in ANY_VALUES:
            self.assertIs(self.holds(1, value), False)
            self.assertIs(self.holds(value, value), False)

    def test_no_rows(self):
        for numbers in ([], (), [0], [1, 2, 3], (5,)):
            self.assertIs(self.holds(1, numbers, [], []), True)
            self.assertIs(self.holds(0, numbers, [], []), False)
            self.assertIs(self.holds(True, numbers, [], []), False)
        for numbers in ([-1], [True], ["a"], "ab", None, 5, [[1]], [1, None]):
            self.assertIs(self.holds(1, numbers, [], []), False)

    def test_scale_is_what_was_passed(self):
        for value in ANY_VALUES + [7]:
            paper = Solution(ROWS, BOUNDS, value, [])
            self.assertEqual(paper.scale, value)
            self.assertIs(type(paper.scale), type(value))


class MirrorTest(unittest.TestCase):
    def holds(self, numbers, rows=WITHOUT, bounds=WITHOUT_BOUNDS):
        return Mirror(rows, bounds, numbers).holds()

    def test_right_ones(self):
        self.assertIs(self.holds([1, 1, 1]), True)
        self.assertIs(self.holds((1, 1, 1)), True)
        self.assertIs(self.holds([10 ** 60] * 3), True)
        self.assertIs(self.holds([4, 4, 5]), True)

    def test_wrong_ones(self):
        self.assertIs(self.holds([0, 0, 0]), False)
        self.assertIs(self.holds([1, 1, 0]), False)
        self.assertIs(self.holds([1, 0, 1]), False)
        self.assertIs(self.holds([0, 1, 1]), False)
        self.assertIs(self.holds([4, 5, 5]), False)
        self.assertIs(self.holds([1, 1, 1], bounds=[4, -2, -2]), False)

    def test_numbers_below_0(self):
        rows, bounds = [[-1, -1], [-2, -2]], [3, 1]
        self.assertIs(self.holds([1, 0], rows, bounds), True)
        self.assertIs(self.holds([1, -1], rows, bounds), False)
        self.assertIs(self.holds([4, -1], rows, bounds), False)

    def test_numbers_of_other_lengths(self):
        for numbers in ([], [1], [1, 1], [1, 1, 1, 0], [1, 1, 1, 1], ()):
            self.assertIs(self.holds(numbers), False)
        for numbers in ([1], [1, 0, 0], (1,)):
            self.assertIs(self.holds(numbers, [[-1], [0]], [1, 0]), False)
        self.assertIs(self.holds([1, 0], [[-1], [0]], [1, 0]), True)

    def test_numbers_of_any_values(self):
        for value in ANY_VALUES:
            self.assertIs(self.holds(value, [[-1, -1], [0, 0]], [1, 1]), False)
            if value != [1, 1, 1]:
                self.assertIs(self.holds(value), False)
        for value in ([1, 1, None], [1, True, 1], [1, 1, "1"], [[1], [1], [1]]):
            self.assertIs(self.holds(value), False)

    def test_no_rows(self):
        for numbers in ([], (), [1], None):
            self.assertIs(self.holds(numbers, [], []), False)

    def test_a_point_leaves_no_mirror(self):
        for numbers in ([0, 0], [1, 0], [0, 1], [1, 1], [1, 2], [5, 3]):
            self.assertIs(self.holds(numbers, ROWS, BOUNDS), False)


class PaperTest(unittest.TestCase):
    def papers(self, rows, bounds, numbers):
        return [Outcome(rows, bounds), Solution(rows, bounds, 1, numbers), Mirror(rows, bounds, numbers)]

    def test_classes(self):
        self.assertEqual(Solution.__bases__, (Outcome,))
        self.assertEqual(Mirror.__bases__, (Outcome,))
        for item in (Outcome, Solution, Mirror):
            for name in ("__init__", "rows", "bounds", "holds", "__bool__", "__repr__"):
                self.assertIn(name, vars(item))
        for item in (Solution, Mirror):
            self.assertIn("numbers", vars(item))

    def test_outcome(self):
        for rows, bounds in ((ROWS, BOUNDS), ([], []), ([[1]], [0])):
            self.assertIs(Outcome(rows, bounds).holds(), False)

    def test_bool_and_repr(self):
        for rows, bounds in (([], []), ([[1]], [1]), (ROWS, BOUNDS), (WITHOUT, WITHOUT_BOUNDS)):
            for numbers in ([], [2, 1], None):
                one, two, three = self.papers(rows, bounds, numbers)
                self.assertEqual([bool(one), bool(two), bool(three)], [False, True, False])
                self.assertEqual([repr(one), repr(two), repr(three)],
                                 [f"{word}({len(rows)} rows)" for word in ("Outcome", "Solution", "Mirror")])

    def test_rows_and_bounds(self):
        for rows, bounds in ((ROWS, BOUNDS), ([tuple(row) for row in ROWS], BOUNDS), (tuple(ROWS), tuple(BOUNDS))):
            for paper in self.papers(rows, bounds, None):
                self.assertEqual(paper.rows(), ROWS)
                self.assertEqual(paper.bounds(), BOUNDS)

    def test_numbers_are_what_was_passed(self):
        for value in ANY_VALUES + [[1, 2], (1, 2), (1, [2, (3, [4])])]:
            for paper in self.papers(ROWS, BOUNDS, value)[1:]:
                self.assertEqual(paper.numbers(), value)
                self.assertIs(type(paper.numbers()), type(value))

    def test_changing_what_was_passed(self):
        rows, bounds, numbers, scale = [[2, 3], [-1, 1]], [7, -1], [2, [1], ([1],)], [1, [2]]
        papers = self.papers(rows, bounds, numbers) + [Solution(rows, bounds, scale, numbers)]
        rows[0][0] = 99
        rows.append([1, 1])
        bounds[0] = 99
        numbers[1].append(4)
        numbers[2][0].append(4)
        numbers.append(5)
        scale[1].append(3)
        for paper in papers:
            self.assertEqual([paper.rows(), paper.bounds()], [ROWS, BOUNDS])
        for paper in papers[1:]:
            self.assertEqual(paper.numbers(), [2, [1], ([1],)])
        self.assertEqual(papers[3].scale, [1, [2]])

    def test_changing_what_was_returned(self):
        for paper in self.papers([[2, 3], [-1, 1]], [7, -1], [2, [1], ([1],)]):
            paper.rows()[0][0] = 99
            paper.rows().append([1, 1])
            paper.bounds()[0] = 99
            self.assertEqual([paper.rows(), paper.bounds()], [ROWS, BOUNDS])
            if type(paper) is not Outcome:
                paper.numbers()[1].append(4)
                paper.numbers()[2][0].append(4)
                paper.numbers().append(4)
                self.assertEqual(paper.numbers(), [2, [1], ([1],)])

    def test_changing_what_solve_was_passed_and_returned(self):
        for rows, bounds in ((ROWS, BOUNDS), (WITHOUT, WITHOUT_BOUNDS)):
            own_rows, own_bounds = [list(row) for row in rows], list(bounds)
            paper = solve(own_rows, own_bounds)
            numbers = paper.numbers()
            own_rows[0][0] += 50
            own_bounds[0] += 50
            paper.numbers().append(3)
            paper.rows()[0].append(3)
            paper.bounds().append(3)
            self.assertEqual([paper.rows(), paper.bounds(), paper.numbers()], [rows, bounds, numbers])
            self.assertTrue(paper.holds())

    def test_numbers_that_solve_returned_may_be_changed_and_passed(self):
        paper = solve(ROWS, BOUNDS)
        self.assertTrue(Solution(ROWS, BOUNDS, paper.scale, paper.numbers()).holds())
        self.assertFalse(Solution(ROWS, BOUNDS, paper.scale, [0] + paper.numbers()[1:1]).holds())
        self.assertFalse(Mirror(ROWS, BOUNDS, paper.numbers()).holds())
        paper = solve(WITHOUT, WITHOUT_BOUNDS)
        self.assertTrue(Mirror(WITHOUT, WITHOUT_BOUNDS, tuple(paper.numbers())).holds())
        self.assertFalse(Mirror(WITHOUT, WITHOUT_BOUNDS, [-number for number in paper.numbers()]).holds())

    def test_by_name(self):
        self.assertEqual(repr(Outcome(bounds=[1], rows=[[1]])), "Outcome(1 rows)")
        paper = Solution(numbers=[2, 1], scale=1, bounds=BOUNDS, rows=ROWS)
        self.assertTrue(paper.holds())
        self.assertTrue(Mirror(numbers=[1, 1, 1], bounds=WITHOUT_BOUNDS, rows=WITHOUT).holds())


if __name__ == "__main__":
    unittest.main()
