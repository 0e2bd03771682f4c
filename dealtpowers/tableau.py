"""The exact arithmetic behind systems.py: whole numbers, never a fraction."""

from math import gcd, lcm


class Tableau:
    """Seeks numbers from 0 on, one for each row of a system, with the greatest sum of number * bound.

    In each place the sum of number * row may be at most the cost of the place. If there is a greatest sum,
    then what the places are worth at it is a point in the system, and the one with the least costs. If there
    is none, then the direction in which the sum grows for ever shows that there is no point.

    A cost is a tuple of numbers from 0 on; of two costs the first different number tells.
    The variables are for each place the rest of its cost, counted from 0, and behind them the rows. Each line
    is an equation: the held variable of the line times the last number, plus the free variables times the
    first numbers, is the cost between them. The goal is such a line, with the sum as its held variable.
    """

    def __init__(self, rows, bounds, costs):
        places = len(costs)
        self._places = places
        self._many = len(rows)
        self._rows = len(rows)
        self._lines = [[row[at] for row in rows] + list(cost) + [1] for at, cost in enumerate(costs)]
        self._goal = [-bound for bound in bounds] + [0] * len(costs[0]) + [1]
        self._free = list(range(places, places + len(rows)))
        self._held = list(range(places))
        self._endless = None
        self._mark = self._goal[len(rows):]

    def widen(self, rows, bounds):
        """Puts more rows behind those of the system; what was found for the others stays."""
        lines = self._lines
        parts = [self._parts(line, held) for line, held in zip(lines, self._held)]
        last = self._goal[-1]
        goal = self._parts(self._goal, None)
        first = self._places + self._rows
        fresh = [_filled(row) for row in rows]
        self._lines = [line[:self._many] + [_picked(row, part) for row in fresh] + line[self._many:]
                       for line, part in zip(lines, parts)]
        self._goal = (self._goal[:self._many] + [_picked(row, goal) - bound * last for row, bound in zip(fresh, bounds)]
                      + self._goal[self._many:])
        self._free = self._free + list(range(first, first + len(rows)))
        self._many = self._many + len(rows)
        self._rows = self._rows + len(rows)

    def narrow(self, first):
        """Leaves out rows behind the first ones whose numbers are 0; they keep their places in the lists.

        They stay if the sum has not grown since rows were left out: else the same ones could go and come for ever.
        """
        reach = [part * self._mark[-1] for part in self._cost(self._goal)]
        if reach <= [part * self._goal[-1] for part in self._mark[:-1]]:
            return
        self._mark = self._goal[self._many:]
        kept = [at for at, name in enumerate(self._free) if name < self._places + first]
        self._lines = [[line[at] for at in kept] + line[self._many:] for line in self._lines]
        self._goal = [self._goal[at] for at in kept] + self._goal[self._many:]
        self._free = [self._free[at] for at in kept]
        self._many = len(kept)

    def _parts(self, line, held):
        """How much of the first equation of each place is in a line."""
        parts = [0] * self._places
        for name, part in zip(self._free, line):
            if name < self._places:
                parts[name] = part
        if held is not None and held < self._places:
            parts[held] = line[-1]
        return parts

    def finish(self):
        """Goes on to the end; tells whether there is a greatest sum."""
        step = self._step()
        while step is not None:
            column, line = step
            if line is None:
                self._endless = column
                return False
            self._turn(column, line)
            step = self._step()
        return True

    def point(self):
        """The pair of a scale and a list of numbers: number / scale is the point with the least costs."""
        numbers = [0] * self._places
        for column, name in enumerate(self._free):
            if name < self._places:
                numbers[name] = self._goal[column]
        return (self._goal[-1], numbers)

    def amounts(self):
        """The pair of a scale and a list of a number for each row: with number / scale the sum is the greatest."""
        pairs = self._held_rows()
        whole = _common_scale(pairs)
        numbers = [0] * self._rows
        for at, line in pairs:
            numbers[at] = line[self._many] * (whole // line[-1])
        return (whole, numbers)

    def growth(self):
        """The list of a number for each row: along it the sum grows for ever."""
        column = self._endless
        pairs = self._held_rows()
        whole = _common_scale(pairs)
        numbers = [0] * self._rows
        for at, line in pairs:
            numbers[at] = -line[column] * (whole // line[-1])
        if self._free[column] >= self._places:
            numbers[self._free[column] - self._places] = whole
        return numbers

    def _held_rows(self):
        """The pairs of the index of a row and the line that holds it."""
        return [(name - self._places, line) for name, line in zip(self._held, self._lines) if name >= self._places]

    def _step(self):
        """The pair (column, line) of the next step, with the line None if nothing stops it; None at the end."""
        best = None
        for column, worth in enumerate(self._goal[:self._many]):
            if worth < 0:
                line = self._stop(column)
                if line is None:
                    return (column, None)
                if best is None or self._gains_more(column, line, best):
                    best = (column, line)
        return best

    def _stop(self, column):
        """The line whose held variable is the first one to fall to 0 while that of the column grows, or None."""
        first = None
        for at, line in enumerate(self._lines):
            if line[column] > 0 and (first is None or self._stops_sooner(column, at, first)):
                first = at
        return first

    def _stops_sooner(self, column, one, other):
        here = self._lines[one]
        there = self._lines[other]
        reach = [part * there[column] for part in self._cost(here)]
        mark = [part * here[column] for part in self._cost(there)]
        return reach + [self._held[one]] < mark + [self._held[other]]

    def _gains_more(self, column, line, best):
        # The greatest gain needs the fewest steps. Where no step gains anything, the lowest variables are
        # taken, here and where it stops: with them the steps never come round in a circle.
        other, mark = best
        here = self._lines[line]
        there = self._lines[mark]
        gain = [-self._goal[column] * there[other] * part for part in self._cost(here)]
        most = [-self._goal[other] * here[column] * part for part in self._cost(there)]
        return gain + [-self._free[column]] > most + [-self._free[other]]

    def _cost(self, line):
        return line[self._many:-1]

    def _turn(self, column, at):
        """Frees the held variable of a line and holds that of a column."""
        line = self._lines[at]
        lines = [_cleared(other, line, column) for other in self._lines]
        lines[at] = list(line)
        lines[at][column] = line[-1]
        lines[at][-1] = line[column]
        self._goal = _cleared(self._goal, line, column)
        self._lines = lines
        name = self._held[at]
        self._held[at] = self._free[column]
        self._free[column] = name


def uneven(place):
    """A cost for the place of this index, as the last part of its costs."""
    # Even costs would meet often, and where costs meet, many steps gain nothing.
    return 1000 + place * place * 37 % 1009


def _filled(row):
    """The pairs of a place and the number there, where it is not 0."""
    return [(at, number) for at, number in enumerate(row) if number != 0]


def _picked(pairs, parts):
    """The sum of the products of the numbers with the parts of their places."""
    return sum([number * parts[at] for at, number in pairs])


def _common_scale(pairs):
    """The least number that the last numbers of all lines divide."""
    whole = 1
    for _, line in pairs:
        whole = lcm(whole, line[-1])
    return whole


def _cleared(other, line, column):
    """Another line without the variable of the column, which the line tells by its held one."""
    if other[column] == 0:
        return other
    common = gcd(other[column], line[column])
    times = line[column] // common
    less = other[column] // common
    fresh = [times * number - less * part for number, part in zip(other, line)]
    fresh[column] = -less * line[-1]
    fresh[-1] = times * other[-1]
    return _reduced(fresh)


def _reduced(line):
    """The line without a common divisor of its numbers."""
    # Trying a divisor on all numbers at once is far faster than seeking the common one number by number.
    common = gcd(line[-1], line[-2])
    while common > 1:
        parts = [divmod(number, common) for number in line]
        rests = [rest for _, rest in parts if rest != 0]
        if not rests:
            return [whole for whole, _ in parts]
        for rest in rests:
            common = gcd(common, rest)
    return line
