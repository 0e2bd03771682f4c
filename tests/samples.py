"""Values of any kind, and plain arithmetic over columns, for the tests of schemas, products, tables and claims."""

import copy
from fractions import Fraction
from itertools import product
from math import gcd, prod

from dealtpowers.claims import Claim
from dealtpowers.products import Product
from dealtpowers.schemas import Schema
from dealtpowers.tables import Table

OBJECTS = [Schema("x"), Product(1), Product(2, [((1, 1), 2)]), Table(1, [(1, (1,))]), Table(2, [(1, (2, 3))]),
           Claim(Schema("x"), Product(1), Product(1))]
DEEP = [[[[[[[[1]]]]]]]]
PLAIN = [None, True, False, 0, 1, 2, -1, 10 ** 60 - 1, "", "x", "S[x]", "1", "x <= x2", "%", "\n", (), [], (1,), [1],
         (1, 1), [1, 1], (1, 1, 1), [(1,)], ((1,),), ((1,), 1), (1, (1,)), ((1,), (1,)), (None,), (True,), (1, True),
         (False, 0), ("1",), ([1],), [[1]], (-1,), (0,), (7,), (6,), (1, -1), ((1,), (True,)), (True, (1,)),
         (((1,), 1),), DEEP, tuple(DEEP)]
ANY_VALUES = PLAIN + OBJECTS


def raised_by(call, *arguments, **named):
    """The error of a call, as its code and its only attribute, where it has one; the arguments must stay."""
    before = [copy.deepcopy(item) for item in arguments]
    try:
        call(*arguments, **named)
    except (ValueError, LookupError) as error:
        found = error
    else:
        return None
    assert list(arguments) == before
    told = {name: item for name, item in vars(found).items() if name != "code"}
    return (found.code, *told.values())


def is_tuple_of(value, width, least, most):
    """Whether a value is a tuple of so many numbers from least to most; True and False are none."""
    return (type(value) is tuple and len(value) == width
            and all(type(part) is int and least <= part <= most for part in value))


def is_plain_exponent(value, width):
    """Whether a value is an exponent, by the words of the document."""
    return is_tuple_of(value, width, 0, 6)


def is_plain_fact(value, width):
    """Whether a value is a fact, by the words of the document."""
    return type(value) is tuple and len(value) == 2 and all(is_plain_exponent(part, width) for part in value)


def times(one, other):
    """The sum of the products, column by column."""
    return sum(a * b for a, b in zip(one, other))


def worth(row, exponent):
    """The monomial of an exponent in a row."""
    return prod(part ** power for part, power in zip(row, exponent))


def keeps(row, facts):
    """Whether a row keeps all facts."""
    return all(worth(row, low) <= worth(row, high) for low, high in facts)


def fits(direction, facts):
    """Whether a direction fits."""
    return min(direction) >= 0 and all(times(direction, low) <= times(direction, high) for low, high in facts)


def rank(lines):
    """How many of the lines are independent."""
    left = [[Fraction(part) for part in line] for line in lines]
    found = 0
    while left:
        line = left.pop()
        at = next((at for at, part in enumerate(line) if part != 0), None)
        if at is not None:
            found += 1
            left = [[part - other[at] / line[at] * own for part, own in zip(other, line)] for other in left]
    return found


def is_ray(direction, facts):
    """Whether a direction is a ray.

    It is the sum of two others that fit and are no multiples of it exactly if it can be left both ways, that is if
    what is tight at it (a column that is 0, a fact that is met equally) leaves more than its own line.
    """
    width = len(direction)
    if not fits(direction, facts) or not any(direction) or gcd(*direction) > 1:
        return False
    tight = [[int(at == place) for at in range(width)] for place in range(width) if direction[place] == 0]
    slopes = [[b - a for a, b in zip(low, high)] for low, high in facts]
    return rank(tight + [slope for slope in slopes if times(slope, direction) == 0]) == width - 1


def box(width, least, most):
    """All tuples of so many numbers from least to most, ascending."""
    return list(product(range(least, most + 1), repeat=width))


def rays_in(width, facts, most):
    """The rays with numbers up to most, by trying all directions."""
    return [direction for direction in box(width, 0, most) if is_ray(direction, facts)]


def random_exponent(pick, width, most=6):
    return tuple(pick.randint(0, most) for _ in range(width))


def random_facts(pick, width, many, most=6):
    return [(random_exponent(pick, width, most), random_exponent(pick, width, most)) for _ in range(many)]


def random_row(pick, width, most=9):
    return tuple(pick.randint(1, most) for _ in range(width))


def random_groups(pick, width, many, most=9):
    return [(pick.randint(1, 4), random_row(pick, width, most)) for _ in range(many)]


def random_factors(pick, width, many):
    return [(random_exponent(pick, width), pick.randint(1, 4)) for _ in range(many)]


def rows_of(groups):
    """The plain list of the rows of groups."""
    return [row for count, row in groups for _ in range(count)]


def grouped(rows):
    """The groups of a plain list of rows."""
    return [(rows.count(row), row) for row in sorted(set(rows))]


def plain_sum(rows, exponent):
    """The sum of the monomials of an exponent."""
    return sum(worth(row, exponent) for row in rows)


def plain_worth(factors, rows):
    """The worth of a product in a plain list of rows."""
    return prod(plain_sum(rows, exponent) ** power for exponent, power in factors)
