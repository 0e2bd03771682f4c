"""Tables: rows of numbers, each with a count."""

from dealtpowers.errors import InvalidExponent, InvalidGroup, InvalidNumber, TooMany, WrongWidth
from dealtpowers.exponents import is_direction_of, is_exponent_of, is_row_of, is_width, monomial
from dealtpowers.numbers import is_number, power
from dealtpowers.values import added_up, is_list

MOST_POWER = 60


class Table:
    """A table with up to 100 different rows."""

    MOST = 100

    def __init__(self, width, groups):
        if not is_width(width):
            raise InvalidNumber(width)
        _check_groups(groups, 1, width)
        found = added_up([(row, count) for count, row in groups])
        if len(found) > Table.MOST:
            raise TooMany(Table.MOST)
        self.width = width
        self._groups = [(count, row) for row, count in found]

    @staticmethod
    def powers(width, base, groups):
        """The table of power groups."""
        if not is_width(width):
            raise InvalidNumber(width)
        if not is_number(base, 1):
            raise InvalidNumber(base)
        _check_groups(groups, 0, width)
        # Long powers take long, and it is known ahead of them how many different rows there are.
        if base > 1 and len({direction for _, direction in groups}) > Table.MOST:
            raise TooMany(Table.MOST)
        return Table(width, powered_groups(base, groups))

    @property
    def size(self):
        """The number of the rows."""
        return sum([count for count, _ in self._groups])

    def groups(self):
        """The list of the groups."""
        return list(self._groups)

    def sum_of(self, exponent):
        """The sum of the monomials of an exponent in all rows."""
        if not is_exponent_of(exponent, self.width):
            raise InvalidExponent(exponent)
        return sum([count * monomial(row, exponent) for count, row in self._groups])

    def __add__(self, other):
        self._check_width(other)
        return Table(self.width, [*self._groups, *other._groups])

    def __mul__(self, other):
        self._check_width(other)
        pairs = [(one, two) for one in self._groups for two in other._groups]
        return Table(self.width, [(one[0] * two[0], _row_product(one[1], two[1])) for one, two in pairs])

    def to_the(self, number):
        """The product of so many equal tables."""
        _check_power(number)
        found = Table(self.width, [(1, (1,) * self.width)])
        for _ in range(number):
            found = found * self
        return found

    def __pow__(self, other):
        return self.to_the(other)

    def raised(self, number):
        """The table with each number to the power of the number."""
        _check_power(number)
        groups = [(count, tuple([power(part, number) for part in row])) for count, row in self._groups]
        return Table(self.width, groups)

    def keeps(self, schema):
        """Whether all rows are rows of the schema."""
        self._check_width(schema)
        return all([row in schema for _, row in self._groups])

    def __eq__(self, other):
        return isinstance(other, Table) and self.width == other.width and self._groups == other._groups

    def __repr__(self):
        return f"Table({len(self._groups)} groups)"

    def _check_width(self, other):
        if other.width != self.width:
            raise WrongWidth(other.width)


def _check_groups(groups, least, width):
    """Refuses what is no list of groups, or of power groups if the least number is 0."""
    if not is_list(groups) or not groups:
        raise InvalidGroup(-1)
    for at, group in enumerate(groups):
        if not _is_group(group, least, width):
            raise InvalidGroup(at)


def _is_group(value, least, width):
    if not isinstance(value, tuple) or len(value) != 2 or not is_number(value[0], least):
        return False
    if least == 0:
        return is_direction_of(value[1], width)
    return is_row_of(value[1], width)


def _check_power(number):
    if not is_number(number, 0) or number > MOST_POWER:
        raise InvalidNumber(number)


def powered_groups(base, groups):
    """The groups for which power groups stand."""
    return [(power(base, times), tuple([power(base, part) for part in direction])) for times, direction in groups]


def _row_product(one, other):
    return tuple([here * there for here, there in zip(one, other)])
