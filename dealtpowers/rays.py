"""The rays of a schema."""

from dealtpowers.exponents import MOST_COLUMNS
from dealtpowers.numbers import lowest, summed


def rays_of(width, slopes):
    """The ascending list of the rays; slopes has high - low, column by column, for each fact."""
    # A schema with fewer columns is treated as one of three columns whose directions are 0 in the last ones.
    # A ray lies on the edge of two of the planes that bound the directions that fit.
    rest = (0,) * (MOST_COLUMNS - width)
    planes = [(1, 0, 0), (0, 1, 0), (0, 0, 1)] + [slope + rest for slope in slopes]
    found = []
    for at, plane in enumerate(planes):
        for other in planes[:at]:
            edge = _edge(plane, other)
            for way in (edge, _turned(edge)):
                if _is_ray(way, planes) and way[width:] == rest:
                    found.append(tuple(lowest(way[:width])))
    return sorted(set(found))


def _edge(one, other):
    """The line in which two planes meet; zeros if they are the same."""
    return (one[1] * other[2] - one[2] * other[1],
            one[2] * other[0] - one[0] * other[2],
            one[0] * other[1] - one[1] * other[0])


def _turned(way):
    return tuple([-part for part in way])


def _is_ray(way, planes):
    """Whether one way along an edge is not zero and on no wrong side of a plane."""
    return any(way) and all([summed(way, plane) >= 0 for plane in planes])
