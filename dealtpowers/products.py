"""Products of powers of sums."""

from dealtpowers.errors import InvalidColumns, InvalidFactor, InvalidNumber, InvalidText, TooMany, WrongWidth
from dealtpowers.exponents import is_columns, is_exponent_of, is_width, monomial
from dealtpowers.numbers import is_number
from dealtpowers.texts import factors_text, read_factors
from dealtpowers.values import added_up, is_list


class Product:
    """A product of powers of up to twelve different sums."""

    MOST = 12

    def __init__(self, width, factors=()):
        if not is_width(width):
            raise InvalidNumber(width)
        _check_factors(factors, width)
        found = added_up(factors)
        if len(found) > Product.MOST:
            raise TooMany(Product.MOST)
        self.width = width
        self._factors = found

    @staticmethod
    def of(*exponents, width=1):
        """The product of the sums of these exponents."""
        return Product(width, [(exponent, 1) for exponent in exponents])

    def factors(self):
        """The list of the factors."""
        return list(self._factors)

    def power(self, exponent):
        """The power of the sum of an exponent; 0 for any other value."""
        # True equals 1 in Python, but is no number of an exponent.
        if is_exponent_of(exponent, self.width):
            for own, times in self._factors:
                if own == exponent:
                    return times
        return 0

    def __contains__(self, exponent):
        return self.power(exponent) > 0

    def __len__(self):
        return len(self._factors)

    def __bool__(self):
        return bool(self._factors)

    def __mul__(self, other):
        if other.width != self.width:
            raise WrongWidth(other.width)
        return Product(self.width, [*self._factors, *other._factors])

    def to_the(self, number):
        """The product with all powers times the number."""
        if not is_number(number, 0):
            raise InvalidNumber(number)
        if number == 0:
            return Product(self.width)
        return Product(self.width, [(exponent, times * number) for exponent, times in self._factors])

    def __pow__(self, other):
        return self.to_the(other)

    def __eq__(self, other):
        return isinstance(other, Product) and self.width == other.width and self._factors == other._factors

    def text(self, columns):
        """The text of the product with these columns."""
        return factors_text(columns, self._factors)

    def worth(self, table):
        """The worth of the product in a table."""
        if table.width != self.width:
            raise WrongWidth(table.width)
        sums = [table.sum_of(exponent) for exponent, _ in self._factors]
        return monomial(sums, [times for _, times in self._factors])

    def __repr__(self):
        return f"Product({len(self._factors)} sums)"


def read_product(columns, text):
    """The product with a text."""
    if not is_columns(columns):
        raise InvalidColumns(columns)
    if not isinstance(text, str):
        raise InvalidText()
    factors = read_factors(columns, text)
    if len(factors) > Product.MOST:
        raise InvalidText()
    found = Product(len(columns), factors)
    if found.text(columns) != text:
        raise InvalidText()
    return found


def _check_factors(factors, width):
    if not is_list(factors):
        raise InvalidFactor(-1)
    for at, factor in enumerate(factors):
        if not _is_factor(factor, width):
            raise InvalidFactor(at)


def _is_factor(value, width):
    if not isinstance(value, tuple) or len(value) != 2:
        return False
    return is_exponent_of(value[0], width) and is_number(value[1], 1)
