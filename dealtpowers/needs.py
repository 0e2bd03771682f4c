"""What is needed: how schemas differ, and the least lots of facts and of sums."""

from itertools import combinations

from dealtpowers.claims import Claim
from dealtpowers.corners import corners
from dealtpowers.errors import InvalidColumns, InvalidSums
from dealtpowers.judging import is_true
from dealtpowers.schemas import Schema
from dealtpowers.sums import check_sums, is_short_list


def difference(one, other):
    """None if two schemas have the same rows; else which one has a direction that does not fit the other one."""
    if one.columns != other.columns:
        raise InvalidColumns(other.columns)
    direction = _direction(one, other)
    if direction is not None:
        return (0, direction)
    direction = _direction(other, one)
    if direction is not None:
        return (1, direction)
    return None


def least_facts(claim):
    """The list of the least lots of facts with which alone a claim is true, as tuples of indexes."""
    facts = claim.schema.facts()
    return _least(len(facts), lambda lot: is_true(_with_facts(claim, _picked(facts, lot))))


def least_lots(schema, pool, goals):
    """The list of the least lots of a pool of sums by which all goals have corners, as tuples of indexes."""
    check_sums(schema, pool)
    if not is_short_list(goals):
        raise InvalidSums(-1)
    for at, goal in enumerate(goals):
        if not schema.is_exponent(goal):
            raise InvalidSums(at)
    return _least(len(pool), lambda lot: _have_corners(schema, _picked(pool, lot), goals))


def _direction(one, other):
    """A direction that fits one schema and not the other one, or None."""
    for low, high in other.facts():
        follows, _, direction = one.reason(low, high)
        if not follows:
            return direction
    return None


def _picked(items, lot):
    return [items[at] for at in lot]


def _with_facts(claim, facts):
    return Claim(Schema(claim.schema.columns, facts), claim.low, claim.high)


def _have_corners(schema, sums, goals):
    return len(sums) > 0 and all([len(list(corners(schema, sums, goal))) > 0 for goal in goals])


def _least(many, is_enough):
    """The lots of so many indexes that are enough, and no lesser part of which is; short ones first, ascending."""
    found = []
    for size in range(many + 1):
        for lot in combinations(range(many), size):
            if not any([_is_part(other, lot) for other in found]) and is_enough(lot):
                found.append(lot)
    return found


def _is_part(lot, other):
    return all([at in other for at in lot])
