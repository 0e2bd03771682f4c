"""Claims in tables of power groups, also where the sums are far too long to be written down.

Each sum is told by its lead, the greatest power of the base in it, and its tail, the sparse sum of which it is that
power. A tail is a tuple of terms, and the depth of its first one is 0.
"""

from dealtpowers.comparing import SPARE_BITS, divided, is_at_most, is_one, span_between, steps_for
from dealtpowers.numbers import lowest, power, summed
from dealtpowers.sparse import multiplied, sign_of
from dealtpowers.values import added_up

# Numbers of so many bits are still written down.
SHORT = 4000
MOST_STEPS = 1000


def holds_in_powers(claim, base, groups):
    """Whether a claim holds in the table of the power groups."""
    low = _grown(claim.low, groups)
    high = _grown(claim.high, groups)
    parts = divided([(tail, times) for _, tail, times in low], [(tail, times) for _, tail, times in high])
    # A root is taken as far as it is one of whole powers.
    lead, *powers = lowest([_lead(high) - _lead(low)] + [times for _, times in parts])
    parts = [(tail, times) for (tail, _), times in zip(parts, powers)]
    deepest = max([tail[-1][0] for tail, _ in parts], default=0)
    if deepest * base.bit_length() <= SHORT:
        return _holds_written(base, lead, parts)
    return _holds_spanned(base, lead, parts)


def _grown(product, groups):
    """The triples of the lead of a sum, its tail and its power, for each factor of a product."""
    found = []
    for exponent, times in product.factors():
        terms = added_up([(-count - summed(direction, exponent), 1) for count, direction in groups])
        first = terms[0][0]
        found.append((-first, tuple([(depth - first, count) for depth, count in terms]), times))
    return found


def _lead(grown):
    return sum([lead * times for lead, _, times in grown])


def _holds_written(base, lead, parts):
    """Whether the product of the tails, with their powers, and of the base to the power lead is at least 1."""
    written = _written(base, lead, parts)
    return is_at_most([(number, -times) for number, times in written if times < 0],
                      [(number, times) for number, times in written if times > 0])


def _written(base, lead, parts):
    """The same product as pairs of a number and its power."""
    written = []
    for terms, times in parts:
        deepest = terms[-1][0]
        written.append((_number(base, terms), times))
        lead = lead - deepest * times
    return written + [(base, lead)]


def _number(base, terms):
    """A sparse sum times the base to the power of its greatest depth."""
    deepest = terms[-1][0]
    return sum([count * power(base, deepest - depth) for depth, count in terms])


def _holds_spanned(base, lead, parts):
    """The same as _holds_written, for tails that are too long."""
    steps = steps_for(parts + [(base, lead)])
    while True:
        bits = steps + SPARE_BITS
        spans = [_tail_span(base, tail, bits) + (times,) for tail, times in parts]
        least, most = span_between(spans + [(base, base, lead)], steps)
        shift = sum([times for _, times in parts]) * bits << steps
        if least >= shift or most < shift:
            return least >= shift
        if steps > MOST_STEPS:
            sign = _nearly(base, lead, parts, steps)
            if sign is not None:
                return sign >= 0
        steps = 2 * steps


def _tail_span(base, tail, bits):
    """A pair of numbers: the tail, times 2 to the power of bits, lies between."""
    down = 0
    up = 0
    for depth, count in tail:
        if depth * (base.bit_length() - 1) > bits + count.bit_length():
            up = up + 1
        else:
            whole, rest = divmod(count << bits, power(base, depth))
            down = down + whole
            up = up + whole + min(1, rest)
    return (down, up)


def _nearly(base, lead, parts, bits):
    """The sign of the logarithm of a product that is nearly 1; None if it is not found."""
    below = [(tail, -times) for tail, times in parts if times < 0]
    above = [(tail, times) for tail, times in parts if times > 0]
    low = multiplied(below)
    high = multiplied(above)
    if low is not None and high is not None:
        return sign_of(base, added_up([(depth - lead, count) for depth, count in high]
                                      + [(depth, -count) for depth, count in low]))
    heads = [(_head(base, tail, bits), times) for tail, times in parts]
    if is_one([(number, times) for number, times in _written(base, lead, heads) if number > 1 and times != 0]):
        return _first_order(base, parts, [head for head, _ in heads])
    return None


def _head(base, tail, bits):
    """The first terms of a tail, as far as they can be written with few bits."""
    return [(depth, count) for depth, count in tail if depth * base.bit_length() <= bits]


def _first_order(base, parts, heads):
    """The sign of the logarithm of a product whose heads alone have the product 1; None if it is not found.

    Each tail is its head times 1 + r with a small r, and the logarithm of 1 + r lies between r - r * r and r.
    """
    whole = 1
    for head in heads:
        whole = whole * _number(base, head)
    terms = []
    for (tail, times), head in zip(parts, heads):
        worth = whole // _number(base, head) * times
        terms.extend([(depth - head[-1][0], count * worth) for depth, count in tail[len(head):]])
    if not terms:
        return 0
    nearest = min([depth for depth, _ in terms])
    most = max([sum([count for _, count in tail]) for tail, _ in parts])
    error = sum([abs(times) for _, times in parts]) * most * most * whole
    if sign_of(base, added_up(terms + [(2 * nearest, -error)])) > 0:
        return 1
    if sign_of(base, added_up(terms + [(2 * nearest, error)])) < 0:
        return -1
    return None
