"""Sparse sums: lists of terms (depth, count), each count times a base to the power -depth, with ascending depths.

The depths may be so great that a sum cannot be written down.
"""

from dealtpowers.numbers import power
from dealtpowers.values import added_up

MOST_TERMS = 20000
MOST_TIMES = 2000


def sign_of(base, terms):
    """The sign of a sparse sum: 1, 0 or -1; the counts are any numbers."""
    rest = sum([abs(count) for _, count in terms])
    worth = 0
    last = 0
    for depth, count in terms:
        if worth != 0:
            gap = depth - last
            if worth.bit_length() - 1 + gap * (base.bit_length() - 1) >= rest.bit_length():
                break
            worth = worth * power(base, gap)
        worth = worth + count
        rest = rest - abs(count)
        last = depth
    if worth == 0:
        return 0
    return 1 if worth > 0 else -1


def multiplied(parts):
    """The product of the powers (sum, times), as a sparse sum; None if it has too many terms."""
    found = [(0, 1)]
    for terms, times in parts:
        if times > MOST_TIMES:
            return None
        for _ in range(times):
            if len(found) * len(terms) > MOST_TERMS:
                return None
            found = added_up([(depth + more, many * count) for depth, many in found for more, count in terms])
    return found
