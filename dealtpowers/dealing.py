"""Deals great sums out to small ones, or finds groups of a table that show that it cannot be done.

The height of an exponent is a list: 1, and behind it the product of each ray with the exponent. A group is a list of
as many numbers: the power in its count, and how often each ray is in its direction. The product of a group and a
height is the power that the sum has in the rows of the group. Great sums cover a small one if their heights, times
their shares, are together at least its height in each place. A lot is the shares of all great sums, and the scale is
how often they cover it.
"""

from dealtpowers.numbers import summed
from dealtpowers.tableau import Tableau, uneven


def heights_of(schema, exponents):
    """The list of the heights of exponents."""
    rays = schema.rays()
    return [[1] + [summed(ray, exponent) for ray in rays] for exponent in exponents]


class Dealing:
    """The amounts of some rows with the greatest sum for which all that the rows need can be dealt out.

    A row has a number for each place: what it takes of each great sum, behind that what it needs of each small sum,
    and then anything else. The costs tell how much of each place there may be. With the lots that are known the
    greatest sum is sought, which also tells the price of each sum. A lot that is cheaper than what it covers is added.
    """

    def __init__(self, great, small, rows, costs):
        self._great = great
        self._small = small
        self._rows = len(rows)
        self._places = len(costs)
        self._lots = []
        self._offers = []
        self._tableau = Tableau(rows, [1] * len(rows), [(cost, uneven(at)) for at, cost in enumerate(costs)])
        self._tableau.finish()

    def improve(self):
        """Adds cheaper lots; tells whether there were any. If not, there is no greater sum."""
        _, prices = self._tableau.point()
        self._offers = [self._offer(at, prices) for at in range(len(self._small)) if self._worth(at, prices) > 0]
        fresh = []
        for at, lot, _ in self._offers:
            if lot is not None and summed(lot[1], prices) < lot[0] * self._worth(at, prices):
                fresh.append((at, lot[0], lot[1]))
        if not fresh:
            return False
        self._put(fresh)
        self._tableau.finish()
        return True

    def amounts(self):
        """The pair of a scale and a list of numbers: the amount of each row is number / scale."""
        scale, numbers = self._tableau.amounts()
        return (scale, numbers[:self._rows])

    def shares(self):
        """For each small sum the list of its shares of all great sums, with the scale of the amounts."""
        _, numbers = self._tableau.amounts()
        found = [[0] * len(self._great) for _ in self._small]
        for (at, _, shares), number in zip(self._lots, numbers[self._rows:]):
            found[at] = [share + number * more for share, more in zip(found[at], shares)]
        return found

    def groups(self):
        """The groups that were found with the last prices: a list of pairs of a scale and a group, each group / scale.

        They show that there is no greater sum, if none was added then.
        """
        return [group for _, _, group in self._offers]

    def _worth(self, at, prices):
        return prices[len(self._great) + at]

    def _offer(self, at, prices):
        """The cheapest lot for a small sum, the pair of a scale and shares, and the group that shows it.

        The lot is None if nothing covers the small sum.
        """
        goal = self._small[at]
        # Without great sums one that covers nothing stands in their place.
        great = self._great or [[0] * len(goal)]
        costs = [(price, uneven(place)) for place, price in enumerate(prices[:len(self._great)] or [0])]
        tableau = Tableau([list(row) for row in zip(*great)], goal, costs)
        if tableau.finish():
            return (at, tableau.point(), tableau.amounts())
        # The group costs nothing, and may be as great as it has to be.
        growth = tableau.growth()
        worth = self._worth(at, prices)
        return (at, None, (summed(growth, goal), [worth * number for number in growth]))

    def _put(self, lots):
        rows = []
        for at, scale, shares in lots:
            row = shares + [0] * (self._places - len(shares))
            row[len(shares) + at] = -scale
            rows.append(row)
        self._lots = self._lots + lots
        self._tableau.narrow(self._rows)
        self._tableau.widen(rows, [0] * len(rows))
