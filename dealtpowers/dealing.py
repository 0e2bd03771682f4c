"""Deals great sums out to small ones, or finds groups of a table that show that it cannot be done.

The height of an exponent is a list: 1, and behind it the product of each ray with the exponent. A group is a list of
as many numbers: the power in its count, and how often each ray is in its direction. The product of a group and a
height is the power that the sum has in the rows of the group. Great sums cover a small one if their heights, times
their shares, are together at least its height in each place. A lot is the shares of all great sums, and the scale is
how often they cover it.
"""

from dealtpowers.numbers import summed
from dealtpowers.tableau import Tableau, uneven


def heights_of(schema, exponents):
    """The list of the heights of exponents."""
    rays = schema.rays()
    return [[1] + [summed(ray, exponent) for ray in rays] for exponent in exponents]


class Dealing:
    """The amounts of some rows with the greatest sum for which all that the rows need can be dealt out.

    A row has a number for each place: what it takes of each great sum, behind that what it needs of each small sum,
    and then anything else. The costs tell how much of each place there may be. With some lots the greatest sum is
    sought, which also tells the price of each sum. While a lot is cheaper than what it covers, it is added.
    """

    def __init__(self, great, small, rows, costs):
        self._great = great
        self._small = small
        self._rows = len(rows)
        self._places = len(costs)
        self._lots = []
        self._tableau = Tableau(rows, [1] * len(rows), [(cost, uneven(at)) for at, cost in enumerate(costs)])
        self._tableau.finish()
        fresh = self._cheaper_lots()
        while fresh:
            self._put(fresh)
            self._tableau.finish()
            fresh = self._cheaper_lots()

    def amounts(self):
        """The pair of a scale and a list of numbers: the amount of each row is number / scale."""
        scale, numbers = self._tableau.amounts()
        return (scale, numbers[:self._rows])

    def shares(self):
        """For each small sum the list of its shares of all great sums, with the scale of the amounts."""
        _, numbers = self._tableau.amounts()
        found = [[0] * len(self._great) for _ in self._small]
        for (at, _, shares), number in zip(self._lots, numbers[self._rows:]):
            found[at] = [share + number * more for share, more in zip(found[at], shares)]
        return found

    def groups(self):
        """The groups that show that there is no greater sum: pairs of a scale and a group, each group / scale."""
        return [self._group(at, worth, offer) for at, worth, offer in self._offers()]

    def _group(self, at, worth, offer):
        if offer.finish():
            return offer.amounts()
        # Nothing covers the small sum. So the group costs nothing, and may be as great as it has to be.
        growth = offer.growth()
        return (summed(growth, self._small[at]), [worth * number for number in growth])

    def _offers(self):
        """For each small sum with a price: its index, its price, and the tableau of the cheapest lot for it."""
        _, prices = self._tableau.point()
        many = len(self._great)
        # Without great sums one that covers nothing stands in their place.
        great = self._great or [[0] * len(goal) for goal in self._small[:1]]
        rows = [list(row) for row in zip(*great)]
        costs = [(price, uneven(at)) for at, price in enumerate(prices[:many] or [0])]
        worths = prices[many:]
        return [(at, worths[at], Tableau(rows, goal, costs)) for at, goal in enumerate(self._small) if worths[at] > 0]

    def _cheaper_lots(self):
        """The triples of the index of a small sum, and of the scale and the shares of a lot that is to be added."""
        _, prices = self._tableau.point()
        found = []
        for at, worth, offer in self._offers():
            if offer.finish():
                scale, shares = offer.point()
                if summed(shares, prices) < scale * worth:
                    found.append((at, scale, shares))
        return found

    def _put(self, lots):
        rows = []
        for at, scale, shares in lots:
            row = shares + [0] * (self._places - len(shares))
            row[len(shares) + at] = -scale
            rows.append(row)
        self._lots = self._lots + lots
        self._tableau.narrow(self._rows)
        self._tableau.widen(rows, [0] * len(rows))
