"""The rules of the document for systems, by plain arithmetic, and systems to try them on."""

from fractions import Fraction
from itertools import combinations


def in_system(rows, bounds, point):
    """Whether a list of fractions is a point in the system."""
    return (all(part >= 0 for part in point)
            and all(sum(a * b for a, b in zip(row, point)) >= bound for row, bound in zip(rows, bounds)))


def is_solution(rows, bounds, scale, numbers):
    """Whether scale and numbers are those of a right Solution; they are numbers."""
    if scale < 1 or min(numbers, default=0) < 0 or (rows and len(numbers) != len(rows[0])):
        return False
    return in_system(rows, bounds, [Fraction(number, scale) for number in numbers])


def is_mirror(rows, bounds, numbers):
    """Whether numbers are those of a right Mirror; they are numbers."""
    if len(numbers) != len(rows) or min(numbers, default=0) < 0:
        return False
    gives = [sum(row[at] * number for row, number in zip(rows, numbers)) for at in range(len(rows[0]) if rows else 0)]
    return max(gives, default=0) <= 0 < sum(bound * number for bound, number in zip(bounds, numbers))


def solved(lines, sums):
    """The point in which all lines meet their sums, or None if there is none or more than one."""
    table = [[Fraction(part) for part in line] + [Fraction(total)] for line, total in zip(lines, sums)]
    many = len(table)
    for at in range(many):
        pivot = next((k for k in range(at, many) if table[k][at] != 0), None)
        if pivot is None:
            return None
        table[at], table[pivot] = table[pivot], table[at]
        table[at] = [part / table[at][at] for part in table[at]]
        for k in range(many):
            if k != at:
                table[k] = [part - table[k][at] * other for part, other in zip(table[k], table[at])]
    return [line[-1] for line in table]


def vertices(rows, bounds, places):
    """All points in the system in which as many of the conditions as there are places are met exactly."""
    units = [[1 if at == place else 0 for at in range(places)] for place in range(places)]
    conditions = list(zip(rows, bounds)) + [(unit, 0) for unit in units]
    for chosen in combinations(conditions, places):
        point = solved([line for line, _ in chosen], [total for _, total in chosen])
        if point is not None and in_system(rows, bounds, point):
            yield point


def least_by_vertices(costs, rows, bounds):
    """What least_cost should return, by trying all vertices; the least cost from 0 on is that of a vertex."""
    found = [sum(cost * part for cost, part in zip(costs, point)) for point in vertices(rows, bounds, len(costs))]
    return (min(found).numerator, min(found).denominator) if found else None


def random_system(pick, many, places, most, inner=None):
    """A system with numbers up to most, with a point of small numbers in it if inner is True."""
    rows = [[pick.randint(-most, most) for _ in range(places)] for _ in range(many)]
    if not inner:
        return rows, [pick.randint(-most, most) for _ in range(many)]
    point = [pick.choice([0, 0, 1, 2, 5]) for _ in range(places)]
    return rows, [sum(a * b for a, b in zip(row, point)) - pick.choice([0, 0, 1, most]) for row in rows]
