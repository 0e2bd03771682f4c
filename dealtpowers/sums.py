"""Lists of sums, and of sums with their numbers."""

from dealtpowers.errors import EqualSums, InvalidSums
from dealtpowers.numbers import is_number
from dealtpowers.values import is_list

MOST_SUMS = 5


def check_sums(schema, sums):
    """Refuses what is no list of 1 to 5 different exponents."""
    if not is_short_list(sums):
        raise InvalidSums(-1)
    for at, exponent in enumerate(sums):
        if not schema.is_exponent(exponent) or exponent in sums[:at]:
            raise InvalidSums(at)


def check_known(schema, known):
    """Refuses what is no list of 1 to 5 known sums, of different exponents."""
    if not is_short_list(known):
        raise InvalidSums(-1)
    for at, pair in enumerate(known):
        if not _is_known(schema, pair) or pair[0] in [exponent for exponent, _ in known[:at]]:
            raise InvalidSums(at)


def check_unequal(schema, sums):
    """Refuses sums one of which is equal to one ahead of it."""
    for at, exponent in enumerate(sums):
        if any([schema.equal_sums(other, exponent) for other in sums[:at]]):
            raise EqualSums(at)


def is_short_list(value):
    """Whether any value is a list of 1 to 5 items."""
    return is_list(value) and 1 <= len(value) <= MOST_SUMS


def _is_known(schema, value):
    return isinstance(value, tuple) and len(value) == 2 and schema.is_exponent(value[0]) and is_number(value[1], 1)
