"""Numbers, their whole roots and their common divisors."""

from math import gcd

from dealtpowers.errors import InvalidNumber
from dealtpowers.values import is_list


def is_whole(value):
    """Whether any value is a number; True and False are none."""
    return isinstance(value, int) and not isinstance(value, bool)


def is_number(value, least):
    """Whether any value is a number, least or greater."""
    return is_whole(value) and value >= least


def are_numbers(value, least):
    """Whether any value is a list of numbers, each of them least or greater."""
    return is_list(value) and all([is_number(item, least) for item in value])


def power(base, exponent):
    """The base to the power of an exponent from 0 on."""
    worth = 1
    square = base
    while exponent > 0:
        if exponent & 1:
            worth = worth * square
        exponent = exponent >> 1
        if exponent > 0:
            square = square * square
    return worth


def summed(row, numbers):
    """The sum of the products of two lists, place by place."""
    return sum([worth * number for worth, number in zip(row, numbers)])


def floor_root(number, degree):
    """The greatest number whose power of this degree is at most the number."""
    _check_root(number, degree)
    return _root(number, degree)


def ceiling_root(number, degree):
    """The least number whose power of this degree is at least the number."""
    _check_root(number, degree)
    root = _root(number, degree)
    if power(root, degree) < number:
        return root + 1
    return root


def _check_root(number, degree):
    if not is_number(number, 0):
        raise InvalidNumber(number)
    if not is_number(degree, 1) or degree > 60:
        raise InvalidNumber(degree)


def _root(number, degree):
    # Newton's steps fall from any guess above the root, and first stand still at its whole part.
    if number == 0:
        return 0
    guess = 1 << (number.bit_length() // degree + 1)
    while True:
        fresh = ((degree - 1) * guess + number // power(guess, degree - 1)) // degree
        if fresh >= guess:
            return guess
        guess = fresh


def lowest(numbers):
    """The numbers, each divided by the greatest common divisor of all; zeros stay."""
    common = 0
    for number in numbers:
        common = gcd(common, number)
    if common == 0:
        return list(numbers)
    return [number // common for number in numbers]
