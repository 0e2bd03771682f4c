"""Small numbers for failing tables.

A side is what is told of a claim that is to fail: a list of pairs of a height and a number, the power of its sum in
the low less that in the high. In the table of groups the claim fails for great bases if the sum of number * reach is
above 0, where the reach of a height is the greatest product of it with a group.
"""

from math import lcm

from dealtpowers.numbers import summed
from dealtpowers.papers import Failing
from dealtpowers.systems import solve

MOST_DOUBLINGS = 64
# The greatest number of groups that are rounded to see whether they fail.
FINE = 1000


def one_group(sides, size):
    """A list with one group with which all sides fail, as a pair of a scale and the group; or an empty list.

    The size is that of a group.
    """
    rows = [[sum([number * height[at] for height, number in side]) for at in range(size)] for side in sides]
    found = solve(rows, [1] * len(rows))
    return [(found.scale, found.numbers())] if found else []


def do_fail(found, sides):
    """Whether all sides fail with these groups, pairs of a scale and a group, also if they are rounded."""
    groups = _in_one_scale(found)
    return any([any(group) for group in groups]) and _fail(_rounded(groups, FINE), sides)


def small_groups(found, sides):
    """Groups of small numbers with which all sides fail, made of pairs of a scale and a group with which they do."""
    groups = _in_one_scale(found)
    size = 1
    rounded = _rounded(groups, size)
    while not _fail(rounded, sides):
        size = size + 1 + size // 8
        rounded = _rounded(groups, size)
    return _without_spare(rounded, sides)


def _in_one_scale(found):
    whole = 1
    for scale, _ in found:
        whole = lcm(whole, scale)
    return [[number * (whole // scale) for number in group] for scale, group in found]


def _rounded(groups, size):
    """The groups with rounded numbers, the greatest of which is the size, each group once."""
    top = max([max(group) for group in groups])
    return sorted(set([tuple([(2 * size * number + top) // (2 * top) for number in group]) for group in groups]))


def _fail(groups, sides):
    return all([sum([number * _reach(groups, height) for height, number in side]) > 0 for side in sides])


def _reach(groups, height):
    return max([summed(group, height) for group in groups])


def _without_spare(groups, sides):
    """The groups without those that are not needed."""
    kept = groups
    for group in groups:
        rest = [other for other in kept if other != group]
        if rest and _fail(rest, sides):
            kept = rest
    return kept


def failing_paper(claims, premises, groups):
    """A failing table with the least base; the groups are power groups with which there is one."""
    # With greater powers in the groups lesser bases will do.
    paper = Failing(claims, premises, 1 << MOST_DOUBLINGS, groups)
    while not paper.holds():
        groups = [(2 * count, tuple([2 * part for part in direction])) for count, direction in groups]
        paper = Failing(claims, premises, paper.base, groups)
    base = 2
    while not Failing(claims, premises, base, groups).holds():
        base = 2 * base
    return Failing(claims, premises, base, groups)
