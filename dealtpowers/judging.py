"""Judges questions: each is dealt, or fails in a table."""

from math import gcd, lcm

from dealtpowers.covers import covers_of
from dealtpowers.dealing import Dealing, heights_of
from dealtpowers.errors import Boundless, Tight
from dealtpowers.exponents import slope_of
from dealtpowers.failing import do_fail, failing_paper, one_group, small_groups
from dealtpowers.numbers import lowest, summed
from dealtpowers.papers import Dealt, Verdict


def judge(*claims, premises=()):
    """A right deal or a right failing table of a question."""
    question = Verdict(claims, premises)
    if question.premises():
        turned = Verdict([premise.turned() for premise in question.premises()])
        deal, _ = _search(turned, _all_powers(turned))
        if deal is not None:
            raise Tight(_deal(turned, deal))
    return _judged(question)


def is_true(claim):
    """Whether a claim is true."""
    question = Verdict([claim])
    deal, _ = _search(question, _all_powers(question))
    return deal is not None


def greatest_power(claim):
    """The pair of the greatest power of a claim."""
    if not claim.low:
        raise Boundless()
    low = claim.low.factors()
    high = claim.high.factors()
    great = heights_of(claim.schema, [exponent for exponent, _ in high])
    small = heights_of(claim.schema, [exponent for exponent, _ in low])
    row = [0] * len(high) + [times for _, times in low]
    dealing = Dealing(great, small, [row], [times for _, times in high] + [0] * len(low))
    while dealing.improve():
        pass
    bottom, numbers = dealing.amounts()
    common = gcd(numbers[0], bottom)
    return (numbers[0] // common, bottom // common)


def _judged(question):
    """The paper of a question whose premises are not tight."""
    sides = _all_powers(question)
    deal, found = _search(question, sides)
    if deal is not None:
        return _deal(question, deal)
    schema = question.claims()[0].schema
    groups = [_power_group(schema, group) for group in small_groups(found, sides)]
    return failing_paper(question.claims(), question.premises(), groups)


def _search(question, sides):
    """A pair: a deal, the pair of weights with uses and of shares, and no groups; or None, and groups that fail all."""
    groups = one_group(sides, 1 + len(question.claims()[0].schema.rays()))
    if groups:
        return (None, groups)
    for chosen, part in _parts(question):
        dealing = _dealing(part)
        groups = _finished(dealing, [sides[at] for at in chosen])
        if not groups:
            _, amounts = dealing.amounts()
            given = {at: amount for at, amount in zip(chosen, amounts)}
            return (([given.get(at, 0) for at in range(len(sides))], _spread(question, part, dealing.shares())), [])
        if do_fail(groups, sides):
            return (None, groups)
    return (None, groups)


def _parts(question):
    """Pairs of indexes of sides and the question about them: each claim alone, which is soon done, and at last all."""
    claims = question.claims()
    whole = list(range(len(claims) + len(question.premises())))
    alone = [([at], Verdict([claim])) for at, claim in enumerate(claims)]
    return alone + [(whole, question)] if len(whole) > 1 else alone


def _spread(question, part, shares):
    """The shares of a part of a question as those of the question."""
    great = part.great_sums()
    found = {}
    for small, numbers in zip(part.small_sums(), shares):
        for exponent, number in zip(great, numbers):
            found[(small, exponent)] = number
    return [[found.get((small, exponent), 0) for exponent in question.great_sums()] for small in question.small_sums()]


def _finished(dealing, sides):
    """Groups with which these sides fail, or an empty list if all is dealt for them."""
    while not any(dealing.amounts()[1]):
        if not dealing.improve() or do_fail(dealing.groups(), sides):
            return dealing.groups()
    return []


def _sides(question):
    """The claims, and behind them the turned premises: in a deal these are like claims."""
    return question.claims() + [premise.turned() for premise in question.premises()]


def _dealing(question):
    """How the powers of the great sums are dealt out to the small ones, for weights and uses with the sum 1."""
    great = question.great_sums()
    small = question.small_sums()
    rows = []
    for side in _sides(question):
        given = [-side.high.power(exponent) for exponent in great]
        needed = [side.low.power(exponent) for exponent in small]
        rows.append(given + needed + [1])
    schema = question.claims()[0].schema
    costs = [0] * len(great) + [0] * len(small) + [1]
    return Dealing(heights_of(schema, great), heights_of(schema, small), rows, costs)


def _deal(question, deal):
    """The deal with a pair of weights with uses and of shares, in whole numbers."""
    numbers, shares = deal
    small = question.small_sums()
    found = [(share, _covers(question, numbers, exponent, share)) for exponent, share in zip(small, shares)]
    whole = 1
    for _, (scale, _) in found:
        whole = lcm(whole, scale)
    flat = [number * whole for number in numbers]
    for share, (scale, covers) in found:
        flat = flat + [number * whole for number in share] + [cover * (whole // scale) for cover in covers]
    flat = lowest(flat)
    weights = flat[:len(question.claims())]
    uses = flat[len(weights):len(numbers)]
    facts = len(question.claims()[0].schema.facts())
    return Dealt(question.claims(), question.premises(), weights, uses,
                 _lots(flat[len(numbers):], len(small), len(question.great_sums()), facts))


def _covers(question, numbers, exponent, shares):
    """The pair of a scale and covers with which the shares cover what is needed of a small sum."""
    need = summed(numbers, [side.low.power(exponent) for side in _sides(question)])
    great = question.great_sums()
    slopes = [slope_of(low, high) for low, high in question.claims()[0].schema.facts()]
    rest = [summed(shares, [other[at] for other in great]) - need * part for at, part in enumerate(exponent)]
    return covers_of(slopes, rest)


def _lots(flat, many, great, facts):
    """So many lots, the numbers of which are all in one list."""
    found = []
    for at in range(many):
        first = at * (great + facts)
        shares = flat[first:first + great]
        found.append((tuple(shares), tuple(flat[first + great:first + great + facts])))
    return found


def _all_powers(question):
    return [_powers(question.claims()[0].schema, side) for side in _sides(question)]


def _powers(schema, side):
    """The pairs of the height of a sum, and its power in the low of a claim less that in the high."""
    exponents = sorted(set([exponent for product in (side.low, side.high) for exponent, _ in product.factors()]))
    powers = [side.low.power(exponent) - side.high.power(exponent) for exponent in exponents]
    return list(zip(heights_of(schema, exponents), powers))


def _power_group(schema, group):
    """The power group with so much of each ray in its direction."""
    rays = schema.rays()
    return (group[0], tuple([summed(group[1:], [ray[at] for ray in rays]) for at in range(schema.width)]))
