"""The texts of monomials, facts and products.

A text is read loosely, and what was read is written again: only if this gives the same text was it right. So what is
read of a wrong text does not matter, as long as it is a value that can be written.
"""

NUMBERS = {"": 1, "2": 2, "3": 3, "4": 4, "5": 5, "6": 6}
DIGITS = "0123456789"
MOST_DIGITS = 18


def monomial_text(columns, exponent):
    """The text of a monomial inside of a sum."""
    words = [_power_text(letter, "", number) for letter, number in zip(columns, exponent) if number > 0]
    return " ".join(words)


def read_monomial(columns, text):
    """The exponent that the text of a monomial inside of a sum names."""
    found = {word[:1]: word[1:] for word in text.split(" ")}
    return tuple([NUMBERS.get(found[letter], 0) if letter in found else 0 for letter in columns])


def fact_text_of(columns, fact):
    """The text of a fact."""
    low, high = fact
    return f"{_side_text(columns, low)} <= {_side_text(columns, high)}"


def read_fact_of(columns, text):
    """The fact with a text, or None."""
    sides = [read_monomial(columns, "" if side == "1" else side) for side in text.split(" <= ")]
    if len(sides) != 2 or fact_text_of(columns, sides) != text:
        return None
    return (sides[0], sides[1])


def _side_text(columns, exponent):
    return monomial_text(columns, exponent) or "1"


def factors_text(columns, factors):
    """The text of a product with these factors."""
    words = [_power_text(f"S[{monomial_text(columns, exponent)}]", "^", times) for exponent, times in factors]
    return " ".join(words) or "1"


def read_factors(columns, text):
    """The list of the factors that a text names."""
    pieces = [piece.partition("]") for piece in text.split("S[")[1:]]
    return [(read_monomial(columns, inside), _read_times(behind.removesuffix(" "))) for inside, _, behind in pieces]


def _power_text(word, sign, times):
    if times == 1:
        return word
    return f"{word}{sign}{times}"


def _read_times(text):
    """The power that the sign and the digits behind a sum name; 1 for what is none."""
    digits = text[1:]
    if not 1 <= len(digits) <= MOST_DIGITS or not all([digit in DIGITS for digit in digits]):
        return 1
    return max(1, int(digits))
