"""Systems: points from 0 on for which sums reach their bounds, and what shows that there is none."""

from math import gcd

from dealtpowers.errors import InvalidSystem
from dealtpowers.numbers import are_numbers, is_number, is_whole, lowest, summed
from dealtpowers.tableau import Tableau, uneven
from dealtpowers.values import copied, is_list


class Outcome:
    """What is known of a system; the base class of Solution and Mirror."""

    def __init__(self, rows, bounds):
        self._rows = [list(row) for row in rows]
        self._bounds = list(bounds)

    def rows(self):
        """The list of the rows."""
        return [list(row) for row in self._rows]

    def bounds(self):
        """The list of the bounds."""
        return list(self._bounds)

    def holds(self):
        """An Outcome itself shows nothing."""
        return False

    def __bool__(self):
        return False

    def __repr__(self):
        return f"Outcome({len(self._rows)} rows)"


class Solution(Outcome):
    """A point in the system: each of the numbers divided by the scale."""

    def __init__(self, rows, bounds, scale, numbers):
        super().__init__(rows, bounds)
        self.scale = copied(scale)
        self._numbers = copied(numbers)

    def rows(self):
        """The list of the rows."""
        return [list(row) for row in self._rows]

    def bounds(self):
        """The list of the bounds."""
        return list(self._bounds)

    def numbers(self):
        """The numbers that were passed."""
        return copied(self._numbers)

    def holds(self):
        """Whether scale and numbers are a point in the system."""
        if not is_number(self.scale, 1) or not are_numbers(self._numbers, 0):
            return False
        if self._rows and len(self._numbers) != len(self._rows[0]):
            return False
        return all([summed(row, self._numbers) >= bound * self.scale for row, bound in zip(self._rows, self._bounds)])

    def __bool__(self):
        return True

    def __repr__(self):
        return f"Solution({len(self._rows)} rows)"


class Mirror(Outcome):
    """What shows that no point is in the system: the rows, each times its number, ask more than they give."""

    def __init__(self, rows, bounds, numbers):
        super().__init__(rows, bounds)
        self._numbers = copied(numbers)

    def rows(self):
        """The list of the rows."""
        return [list(row) for row in self._rows]

    def bounds(self):
        """The list of the bounds."""
        return list(self._bounds)

    def numbers(self):
        """The numbers that were passed."""
        return copied(self._numbers)

    def holds(self):
        """Whether the numbers show that no point is in the system."""
        if not are_numbers(self._numbers, 0) or len(self._numbers) != len(self._rows):
            return False
        if summed(self._bounds, self._numbers) <= 0:
            return False
        gives = [summed([row[at] for row in self._rows], self._numbers) for at in range(len(self._rows[0]))]
        return all([given <= 0 for given in gives])

    def __bool__(self):
        return False

    def __repr__(self):
        return f"Mirror({len(self._rows)} rows)"


def solve(rows, bounds):
    """A Solution or a Mirror of the system that holds."""
    _check_system(rows, bounds)
    if not rows:
        return Solution(rows, bounds, 1, [])
    tableau = Tableau(rows, bounds, [(uneven(at),) for at in range(len(rows[0]))])
    if tableau.finish():
        scale, numbers = tableau.point()
        scale, *numbers = lowest([scale] + numbers)
        return Solution(rows, bounds, scale, numbers)
    return Mirror(rows, bounds, lowest(tableau.growth()))


def least_cost(costs, rows, bounds):
    """The least sum of cost * number over the points in the system, as a pair; None without a point."""
    _check_system(rows, bounds)
    if not are_numbers(costs, 0) or (rows and len(costs) != len(rows[0])):
        raise InvalidSystem(-1)
    if not rows:
        return (0, 1)
    tableau = Tableau(rows, bounds, [(cost, uneven(at)) for at, cost in enumerate(costs)])
    if not tableau.finish():
        return None
    scale, numbers = tableau.point()
    top = summed(costs, numbers)
    common = gcd(top, scale)
    return (top // common, scale // common)


def _check_system(rows, bounds):
    if not is_list(rows) or not is_list(bounds) or len(rows) != len(bounds):
        raise InvalidSystem(-1)
    for at, row in enumerate(rows):
        if not _is_row(row) or len(row) != len(rows[0]) or not is_whole(bounds[at]):
            raise InvalidSystem(at)


def _is_row(value):
    return is_list(value) and len(value) > 0 and all([is_whole(item) for item in value])
