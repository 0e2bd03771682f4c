"""Covers: how often each fact is needed."""

from dealtpowers.systems import solve


def covers_of(slopes, rest):
    """A pair (scale, covers): scale * rest, minus the sum of cover * slope, is from 0 on in each column.

    The rest, a number for each column, is from 0 on along each ray of the facts; slopes has their high - low.
    """
    if not slopes:
        return (1, ())
    rows = [[-slope[at] for slope in slopes] for at in range(len(rest))]
    found = solve(rows, [-part for part in rest])
    return (found.scale, tuple(found.numbers()))
