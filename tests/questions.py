"""The rules of the document for papers, by plain arithmetic, and questions to try them on."""

from dealtpowers.claims import Claim
from dealtpowers.products import Product
from dealtpowers.schemas import Schema
from samples import fits, plain_worth, random_exponent, random_facts, times


def factors_of(claims, side):
    """The factors on one side of all claims."""
    return [factor for claim in claims for factor in getattr(claim, side).factors()]


def small_of(claims, premises):
    """The small sums of a question."""
    return sorted({exponent for exponent, _ in factors_of(claims, "low") + factors_of(premises, "high")})


def great_of(claims, premises):
    """The great sums of a question."""
    return sorted({exponent for exponent, _ in factors_of(claims, "high") + factors_of(premises, "low")})


def power_in(product, exponent):
    """The power of a sum in a product."""
    return dict(product.factors()).get(exponent, 0)


def are_counts(values, many, kinds=(list, tuple)):
    """Whether values is a list of so many numbers from 0 on."""
    return (type(values) in kinds and len(values) == many
            and all(type(value) is int and value >= 0 for value in values))


def is_right_deal(claims, premises, weights, uses, lots):
    """Whether parts of any kind are those of a right deal."""
    small, great = small_of(claims, premises), great_of(claims, premises)
    facts = claims[0].schema.facts()
    if not are_counts(weights, len(claims)) or not are_counts(uses, len(premises)) or max(weights) == 0:
        return False
    if type(lots) not in (list, tuple) or len(lots) != len(small):
        return False
    for lot in lots:
        if type(lot) is not tuple or len(lot) != 2 or not are_counts(lot[0], len(great), (tuple,)):
            return False
        if not are_counts(lot[1], len(facts), (tuple,)):
            return False
    return deals_out(claims, premises, weights, uses, lots)


def deals_out(claims, premises, weights, uses, lots):
    """Whether the numbers of a deal are right."""
    for at, exponent in enumerate(great_of(claims, premises)):
        supply = (sum(weight * power_in(claim.high, exponent) for weight, claim in zip(weights, claims))
                  + sum(use * power_in(premise.low, exponent) for use, premise in zip(uses, premises)))
        if sum(shares[at] for shares, _ in lots) > supply:
            return False
    for exponent, (shares, covers) in zip(small_of(claims, premises), lots):
        need = (sum(weight * power_in(claim.low, exponent) for weight, claim in zip(weights, claims))
                + sum(use * power_in(premise.high, exponent) for use, premise in zip(uses, premises)))
        if sum(shares) < need:
            return False
        for at, part in enumerate(exponent):
            left = sum(share * other[at] for share, other in zip(shares, great_of(claims, premises))) - need * part
            for cover, (low, high) in zip(covers, claims[0].schema.facts()):
                left -= cover * (high[at] - low[at])
            if left < 0:
                return False
    return True


def rows_of_powers(base, groups):
    """The pairs of a count and a row of power groups."""
    return [(base ** count, tuple(base ** part for part in direction)) for count, direction in groups]


def sides_at(claim, base, groups):
    """The worths of both sides of a claim in the table of power groups."""
    def sum_at(exponent):
        return sum(base ** (count + times(direction, exponent)) for count, direction in groups)

    found = []
    for side in (claim.low, claim.high):
        worth = 1
        for exponent, power in side.factors():
            worth *= sum_at(exponent) ** power
        found.append(worth)
    return found


def fails_at(claims, premises, base, groups):
    """Whether a base and power groups are a right failing table."""
    facts = claims[0].schema.facts()
    if not groups or not all(fits(direction, facts) for _, direction in groups):
        return False
    held = [low <= high for low, high in (sides_at(premise, base, groups) for premise in premises)]
    return all(held) and all(low > high for low, high in (sides_at(claim, base, groups) for claim in claims))


def random_product(pick, width, many, most=3, power=3):
    """A product of up to so many sums."""
    return Product(width, [(random_exponent(pick, width, most), pick.randint(1, power)) for _ in range(many)])


def random_claim(pick, schema, many, most=3, power=3):
    """A claim with up to so many sums on each side."""
    sides = [random_product(pick, schema.width, pick.randint(0, many), most, power) for _ in range(2)]
    return Claim(schema, *sides)


def balanced_claim(pick, schema, many):
    """A claim that is met equally by each table of equal rows; so only others can fail it."""
    low, high = [], []
    while len(low) < 2 * many:
        one, other = (random_exponent(pick, schema.width, 4) for _ in range(2))
        move = [pick.randint(-2, 2) for _ in range(schema.width)]
        pair = [tuple(a + b for a, b in zip(one, move)), tuple(a - b for a, b in zip(other, move))]
        if all(0 <= part <= 6 for exponent in pair for part in exponent):
            power = pick.randint(1, 3)
            low += [(one, power), (other, power)]
            high += [(exponent, power) for exponent in pair]
    return Claim(schema, Product(schema.width, low), Product(schema.width, high))


def random_schema(pick, most_facts=4, most=3):
    """A schema of one to three columns."""
    width = pick.randint(1, 3)
    return Schema("xyz"[:width], random_facts(pick, width, pick.randint(0, most_facts), most))


def kept_premises(pick, schema, many, most=3, sums=3):
    """Premises that a table keeps strictly, so that they are not tight."""
    groups = random_groups_of_powers(pick, schema, 3)
    found = []
    for _ in range(40):
        claim = random_claim(pick, schema, sums, most)
        low, high = sides_at(claim, 16, groups)
        if low != high and len(found) < many:
            found.append(claim if low < high else claim.turned())
    return found


def random_groups_of_powers(pick, schema, many):
    """Power groups whose directions fit."""
    rays = schema.rays()
    found = []
    for _ in range(many):
        weights = [pick.randint(0, 2) for _ in rays]
        direction = tuple(times(weights, [ray[at] for ray in rays]) for at in range(schema.width))
        found.append((pick.randint(0, 4), direction))
    return found


def plain_sides(claim, rows):
    """Both sides of a claim for a plain list of rows."""
    return plain_worth(claim.low.factors(), rows), plain_worth(claim.high.factors(), rows)
