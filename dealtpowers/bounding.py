"""The greatest and the least numbers with which claims hold for known numbers in the places of their sums."""

from dealtpowers.comparing import is_at_most
from dealtpowers.exponents import monomial
from dealtpowers.numbers import floor_root

# Up to these the root is taken of the product itself.
SHORT = 100000
MOST_DEGREE = 60


def holds_with(claim, numbers):
    """Whether a claim holds with numbers, a dict, in the places of its sums."""
    return is_at_most(_parts(claim.low, numbers), _parts(claim.high, numbers))


def greatest_with(claims, goal, numbers):
    """The greatest number in the place of the goal in the lows with which all claims hold; None without claims.

    The low of each claim has no other sum.
    """
    greatest = None
    for claim in claims:
        degree = claim.low.power(goal)
        parts = _parts(claim.high, numbers)
        if greatest is None or not is_at_most([(greatest, degree)], parts):
            greatest = _greatest_root(degree, parts, [])
    return greatest


def least_with(claims, goal, numbers, least):
    """The least number, from least on, in the place of the goal in the highs with which all claims hold."""
    for claim in claims:
        degree = claim.high.power(goal)
        low = _parts(claim.low, numbers)
        rest = [(numbers[exponent], times) for exponent, times in claim.high.factors() if exponent != goal]
        if not is_at_most(low, rest + [(least, degree)]):
            # The least number is at least 1 and fails here, so the root is a number from 1 on.
            least = _greatest_root(degree, low, rest)
            if not is_at_most(low, rest + [(least, degree)]):
                least = least + 1
    return least


def _parts(product, numbers):
    return [(numbers[exponent], times) for exponent, times in product.factors()]


def _greatest_root(degree, high, low):
    """The greatest number whose power of this degree, times the product low, is at most the product high."""
    if degree <= MOST_DEGREE and _bits(high) <= SHORT:
        return floor_root(_worth(high) // _worth(low), degree)
    size = 0
    while is_at_most([(1 << size, degree)] + low, high):
        size = size + 1
    root = 0
    for at in reversed(range(size)):
        if is_at_most([(root + (1 << at), degree)] + low, high):
            root = root + (1 << at)
    return root


def _bits(parts):
    return sum([number.bit_length() * times for number, times in parts])


def _worth(parts):
    return monomial([number for number, _ in parts], [times for _, times in parts])
