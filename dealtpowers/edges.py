"""Corners: the edges of a cone, found by cutting it plane by plane."""

from dealtpowers.numbers import lowest, summed


def corners_of(heights, goal):
    """The ascending list of the corners of a goal; given are the heights of the sums and that of the goal."""
    # A mix is a direction (scale, parts) in the cone of those that cover the goal, and a corner is an edge of it.
    planes = [[-part] + [height[at] for height in heights] for at, part in enumerate(goal)]
    edges = _edges(planes, len(heights) + 1)
    return sorted([(edge[0], tuple(edge[1:])) for edge in edges if edge[0] > 0])


def _edges(planes, size):
    """The edges of the cone of all numbers from 0 on that are on no wrong side of a plane."""
    bounds = [[int(at == place) for at in range(size)] for place in range(size)]
    edges = bounds
    for plane in planes:
        edges = _cut(edges, bounds, plane)
        bounds = bounds + [plane]
    return edges


def _cut(edges, bounds, plane):
    """The edges that are left behind a cut."""
    marks = [_mark(edge, bounds) for edge in edges]
    sides = [summed(edge, plane) for edge in edges]
    found = [edge for edge, side in zip(edges, sides) if side >= 0]
    for one, gain in enumerate(sides):
        for other, loss in enumerate(sides):
            if gain > 0 and loss < 0 and _meet(marks, one, other):
                found.append(lowest([there * gain - here * loss for here, there in zip(edges[one], edges[other])]))
    return found


def _mark(edge, bounds):
    """A number whose bits tell on which bounds an edge lies."""
    return sum([1 << at for at, bound in enumerate(bounds) if summed(edge, bound) == 0])


def _meet(marks, one, other):
    """Whether two edges lie beside each other: no third one is on all the bounds on which both are."""
    both = marks[one] & marks[other]
    return not any([both & mark == both for at, mark in enumerate(marks) if at not in (one, other)])
