"""Corners, the bounds that they give, and the claims from which all others follow."""

from dealtpowers.claims import Claim
from dealtpowers.dealing import heights_of
from dealtpowers.edges import corners_of
from dealtpowers.errors import InvalidExponent, TooMany
from dealtpowers.products import Product
from dealtpowers.sums import MOST_SUMS, check_sums, check_unequal
from dealtpowers.systems import solve


def corners(schema, sums, goal):
    """A generator of the ascending corners of a goal by a list of sums."""
    _check(schema, sums, goal)
    yield from _corners(schema, sums, goal)


def upper_bounds(schema, sums, goal):
    """The list of the upper bounds of a goal by a list of sums."""
    _check(schema, sums, goal)
    return _upper_bounds(schema, sums, goal)


def lower_bounds(schema, sums, goal):
    """The list of the lower bounds of a goal by a list of sums."""
    _check(schema, sums, goal)
    wider = list(sums)
    if goal not in sums:
        wider = wider + [goal]
    if len(wider) > MOST_SUMS:
        raise TooMany(MOST_SUMS)
    claims = [claim for exponent in sums if exponent != goal for claim in _upper_bounds(schema, wider, exponent)]
    return [claim for claim in claims if goal in claim.high]


def base(schema, sums):
    """The base of a list of sums."""
    check_sums(schema, sums)
    check_unequal(schema, sums)
    one = Product(schema.width)
    claims = [Claim(schema, one, Product(schema.width, [(exponent, 1)])) for exponent in sums]
    for exponent in sums:
        claims.extend(_upper_bounds(schema, [other for other in sums if other != exponent], exponent))
    return sorted([claim for at, claim in enumerate(claims) if combined(claim, claims[:at] + claims[at + 1:]) is None],
                  key=_factors)


def combined(claim, claims):
    """A pair (scale, multipliers) that shows that a claim is combined from a list of claims; None if it is not."""
    gains = [_gains(other) for other in claims]
    goal = _gains(claim)
    exponents = sorted(set([exponent for gain in gains + [goal] for exponent in list(gain)]))
    if not goal:
        return (1, (0,) * len(gains))
    if not gains:
        return None
    rows = [[gain.get(exponent, 0) for gain in gains] for exponent in exponents]
    bounds = [goal.get(exponent, 0) for exponent in exponents]
    # Each sum reaches its bound, and all together are no more than the bounds: so each meets its own exactly.
    whole = [-sum([row[at] for row in rows]) for at in range(len(gains))]
    found = solve(rows + [whole], bounds + [-sum(bounds)])
    if not found:
        return None
    return (found.scale, tuple(found.numbers()))


def _check(schema, sums, goal):
    check_sums(schema, sums)
    if not schema.is_exponent(goal):
        raise InvalidExponent(goal)


def _corners(schema, sums, goal):
    return corners_of(heights_of(schema, sums), heights_of(schema, [goal])[0])


def _upper_bounds(schema, sums, goal):
    return [_bound(schema, sums, goal, mix) for mix in _corners(schema, sums, goal)]


def _bound(schema, sums, goal, mix):
    """The claim that a mix stands for."""
    scale, parts = mix
    high = [(exponent, part) for exponent, part in zip(sums, parts) if part > 0]
    return Claim(schema, Product(schema.width, [(goal, scale)]), Product(schema.width, high))


def _factors(claim):
    return (tuple(claim.low.factors()), tuple(claim.high.factors()))


def _gains(claim):
    """For each exponent, in a dict, its power in the high less that in the low, where it is not 0."""
    powers = {exponent: times for exponent, times in claim.high.factors()}
    for exponent, times in claim.low.factors():
        powers[exponent] = powers.get(exponent, 0) - times
    return {exponent: times for exponent, times in powers.items() if times != 0}
