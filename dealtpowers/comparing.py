"""Compares products of powers, also those that are far too long to be written down."""

from math import gcd

from dealtpowers.exponents import monomial

# Steps more than the greatest power has bits: they tell products apart that are not nearly equal.
MORE_STEPS = 32
SPARE_BITS = 64
# Products of so many bits are still multiplied out.
SHORT = 2000000


def is_at_most(low, high):
    """Whether a product is at most another one; both are lists of pairs (number, power), numbers from 1 on."""
    parts = _quotient(low, high)
    steps = steps_for(parts)
    least, most = _span(parts, steps)
    if least >= 0 or most < 0:
        return least >= 0
    if sum([number.bit_length() * abs(times) for number, times in parts]) <= SHORT:
        return _worth([(number, -times) for number, times in parts]) <= _worth(parts)
    if is_one(parts):
        return True
    # What is not 1 has a logarithm other than 0, and more steps show its sign in the end.
    while least < 0 <= most:
        steps = 2 * steps
        least, most = _span(parts, steps)
    return least >= 0


def steps_for(parts):
    """With so many steps products are told apart unless they are nearly equal."""
    return max([abs(times).bit_length() for _, times in parts], default=0) + MORE_STEPS


def _quotient(low, high):
    """The product high / low, or a root of it: pairs of a number above 1 and a power, below 0 for those of low."""
    parts = [(number, times) for number, times in divided(low, high) if number != 1]
    common = 0
    for _, times in parts:
        common = gcd(common, times)
    return [(number, times // common) for number, times in parts]


def divided(low, high):
    """The pairs of high, and those of low with the powers below 0; equal ones are added up, without powers of 0."""
    found = {}
    for key, times in high:
        found[key] = found.get(key, 0) + times
    for key, times in low:
        found[key] = found.get(key, 0) - times
    return [(key, times) for key, times in found.items() if times != 0]


def _worth(parts):
    """The product of the powers above 0."""
    above = [(number, times) for number, times in parts if times > 0]
    return monomial([number for number, _ in above], [times for _, times in above])


def _span(parts, steps):
    return span_between([(number, number, times) for number, times in parts], steps)


def span_between(parts, steps):
    """A pair of numbers: the logarithm of a product, to the base 2 and times 2 to the power steps, lies between.

    A part (down, up, times) is the power of a number that lies between down and up; down is from 1 on.
    """
    least = 0
    most = 0
    for down, up, times in parts:
        below, above = _logarithm(down, up, steps)
        if times < 0:
            below, above = above, below
        least = least + times * below
        most = most + times * above
    return (least, most)


def _logarithm(down, up, steps):
    """A pair of numbers: the logarithms of all numbers from down to up, times 2 to the power steps, lie between."""
    # The bits of a number tell its logarithm, and each squaring doubles this. Of the squares only the first bits
    # are kept, once rounded down and once rounded up, so that the true square stays between them.
    bits = steps + SPARE_BITS
    down, low_shift = _cut_down(down, 0, bits)
    up, high_shift = _cut_up(up, 0, bits)
    for _ in range(steps):
        down, low_shift = _cut_down(down * down, 2 * low_shift, bits)
        up, high_shift = _cut_up(up * up, 2 * high_shift, bits)
    return (low_shift + down.bit_length() - 1, high_shift + up.bit_length())


def _cut_down(number, shift, bits):
    more = max(0, number.bit_length() - bits)
    return (number >> more, shift + more)


def _cut_up(number, shift, bits):
    more = max(0, number.bit_length() - bits)
    return (-(-number >> more), shift + more)


def is_one(parts):
    """Whether a product is 1; its parts are pairs of a number above 1 and a power other than 0."""
    # Two numbers with a common divisor are split by it, until no two have one. Then no power can make up for another.
    waiting = list(parts)
    settled = []
    while waiting:
        number, times = waiting.pop()
        at = _place(settled, number)
        if at is None:
            settled.append((number, times))
        else:
            fresh = _split((number, times), settled.pop(at))
            waiting.extend([(part, often) for part, often in fresh if part > 1 and often != 0])
    return not settled


def _place(settled, number):
    """The index of the first settled number that has a common divisor with a number, or None."""
    for at, (other, _) in enumerate(settled):
        if gcd(number, other) > 1:
            return at
    return None


def _split(one, other):
    """Two powers as those of their common divisor and of what is left of both."""
    common = gcd(one[0], other[0])
    here, rest = _divided(one[0], common)
    there, left = _divided(other[0], common)
    return [(rest, one[1]), (left, other[1]), (common, here * one[1] + there * other[1])]


def _divided(number, part):
    """How often a part divides a number, and what is left then."""
    if number % part != 0:
        return (0, number)
    half, rest = _divided(number // part, part * part)
    if rest % part == 0:
        return (2 * half + 2, rest // part)
    return (2 * half + 1, rest)
