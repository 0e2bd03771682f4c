"""Columns, exponents, directions and rows, as plain values."""

from dealtpowers.numbers import are_numbers, is_number, power

LETTERS = "abcdefghijklmnopqrstuvwxyz"
MOST_COLUMNS = 3
HIGHEST = 6


def is_width(value):
    """Whether any value is a number of columns that a schema can have."""
    return is_number(value, 1) and value <= MOST_COLUMNS


def is_columns(value):
    """Whether any value is a string of 1 to 3 different lowercase letters."""
    if not isinstance(value, str) or not is_width(len(value)):
        return False
    return len(set(value)) == len(value) and all([letter in LETTERS for letter in value])


def is_direction_of(value, width):
    """Whether any value is a direction of this width."""
    return _is_tuple_of(value, width, 0)


def is_exponent_of(value, width):
    """Whether any value is an exponent of this width."""
    return _is_tuple_of(value, width, 0) and all([number <= HIGHEST for number in value])


def is_row_of(value, width):
    """Whether any value is a row of this width."""
    return _is_tuple_of(value, width, 1)


def _is_tuple_of(value, width, least):
    return isinstance(value, tuple) and len(value) == width and are_numbers(value, least)


def monomial(row, exponent):
    """The product of the numbers of a row, each to its power."""
    worth = 1
    for number, times in zip(row, exponent):
        worth = worth * power(number, times)
    return worth


def slope_of(low, high):
    """The difference high - low of two exponents, column by column."""
    return tuple([more - less for less, more in zip(low, high)])
