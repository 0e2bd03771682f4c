"""Papers: what is told about a question, checked by plain arithmetic."""

from dealtpowers.claims import Claim
from dealtpowers.errors import InvalidClaim, WrongSchema
from dealtpowers.exponents import is_direction_of, slope_of
from dealtpowers.growing import holds_in_powers
from dealtpowers.numbers import are_numbers, is_number, summed
from dealtpowers.tables import Table, powered_groups
from dealtpowers.values import copied, is_list

MOST_CLAIMS = 4


class Verdict:
    """The question whether in each table in which all premises hold one of the claims does."""

    def __init__(self, claims, premises=()):
        _check_claims(claims, 1)
        first = claims[0].schema
        _check_schemas(claims, first)
        _check_claims(premises, 0)
        _check_schemas(premises, first)
        self._claims = list(claims)
        self._premises = list(premises)

    def claims(self):
        """The list of the claims."""
        return list(self._claims)

    def premises(self):
        """The list of the premises."""
        return list(self._premises)

    def small_sums(self):
        """The ascending list of the exponents in the low of a claim or in the high of a premise."""
        return _sums(self._claims, self._premises)

    def great_sums(self):
        """The ascending list of the exponents in the high of a claim or in the low of a premise."""
        return _sums(self._premises, self._claims)

    def told(self):
        """What is told, in a word."""
        return "open"

    def holds(self):
        """A question itself shows nothing."""
        return False

    def __bool__(self):
        return False

    def __repr__(self):
        return f"Verdict({self.told()})"


class Dealt(Verdict):
    """A deal: the great sums, each times its share, cover each small one."""

    def __init__(self, claims, premises, weights, uses, lots):
        super().__init__(claims, premises)
        self._weights = copied(weights)
        self._uses = copied(uses)
        self._lots = copied(lots)

    def claims(self):
        """The list of the claims."""
        return list(self._claims)

    def premises(self):
        """The list of the premises."""
        return list(self._premises)

    def small_sums(self):
        """The ascending list of the exponents in the low of a claim or in the high of a premise."""
        return _sums(self._claims, self._premises)

    def great_sums(self):
        """The ascending list of the exponents in the high of a claim or in the low of a premise."""
        return _sums(self._premises, self._claims)

    def told(self):
        """What is told, in a word."""
        return "dealt"

    def weights(self):
        """The weights that were passed."""
        return copied(self._weights)

    def uses(self):
        """The uses that were passed."""
        return copied(self._uses)

    def lots(self):
        """The lots that were passed."""
        return copied(self._lots)

    def holds(self):
        """Whether the deal is right."""
        if not self._has_parts() or not any(self._weights):
            return False
        shares = [lot[0] for lot in self._lots]
        for at, exponent in enumerate(self.great_sums()):
            if sum([share[at] for share in shares]) > self._supply(exponent):
                return False
        return all([self._covers(exponent, lot) for exponent, lot in zip(self.small_sums(), self._lots)])

    def __bool__(self):
        return True

    def __repr__(self):
        return f"Verdict({self.told()})"

    def _has_parts(self):
        """Whether weights, uses and lots are lists of numbers and lots, as many as there should be."""
        if not _are_so_many(self._weights, len(self._claims)) or not _are_so_many(self._uses, len(self._premises)):
            return False
        if not is_list(self._lots) or len(self._lots) != len(self.small_sums()):
            return False
        great = len(self.great_sums())
        facts = len(self._claims[0].schema.facts())
        return all([_is_lot(lot, great, facts) for lot in self._lots])

    def _need(self, exponent):
        taken = [claim.low.power(exponent) for claim in self._claims]
        given = [premise.high.power(exponent) for premise in self._premises]
        return summed(self._weights, taken) + summed(self._uses, given)

    def _supply(self, exponent):
        given = [claim.high.power(exponent) for claim in self._claims]
        taken = [premise.low.power(exponent) for premise in self._premises]
        return summed(self._weights, given) + summed(self._uses, taken)

    def _covers(self, exponent, lot):
        """Whether the lot of a small sum covers its need."""
        shares, covers = lot
        need = self._need(exponent)
        if sum(shares) < need:
            return False
        great = self.great_sums()
        slopes = [slope_of(low, high) for low, high in self._claims[0].schema.facts()]
        for at, part in enumerate(exponent):
            shared = summed(shares, [other[at] for other in great])
            if shared - need * part < summed(covers, [slope[at] for slope in slopes]):
                return False
        return True


class Failing(Verdict):
    """A failing table: all premises hold in it, and no claim does."""

    def __init__(self, claims, premises, base, groups):
        super().__init__(claims, premises)
        self.base = copied(base)
        self._groups = copied(groups)

    def claims(self):
        """The list of the claims."""
        return list(self._claims)

    def premises(self):
        """The list of the premises."""
        return list(self._premises)

    def small_sums(self):
        """The ascending list of the exponents in the low of a claim or in the high of a premise."""
        return _sums(self._claims, self._premises)

    def great_sums(self):
        """The ascending list of the exponents in the high of a claim or in the low of a premise."""
        return _sums(self._premises, self._claims)

    def told(self):
        """What is told, in a word."""
        return "failing"

    def groups(self):
        """The groups that were passed."""
        return copied(self._groups)

    def table(self):
        """The table of the power groups; None if base and groups are none of a table."""
        if not self._has_table():
            return None
        return Table(self._claims[0].schema.width, powered_groups(self.base, self._groups))

    def holds(self):
        """Whether the failing table is right."""
        if not self._has_table():
            return False
        schema = self._claims[0].schema
        if not all([schema.fits(direction) for _, direction in self._groups]):
            return False
        if not all([holds_in_powers(premise, self.base, self._groups) for premise in self._premises]):
            return False
        return not any([holds_in_powers(claim, self.base, self._groups) for claim in self._claims])

    def __bool__(self):
        return False

    def __repr__(self):
        return f"Verdict({self.told()})"

    def _has_table(self):
        """Whether base and groups are those of a table."""
        if not is_number(self.base, 2) or not is_list(self._groups) or not 1 <= len(self._groups) <= Table.MOST:
            return False
        width = self._claims[0].schema.width
        return all([_is_power_group(group, width) for group in self._groups])


def _check_claims(claims, least):
    if not is_list(claims) or not least <= len(claims) <= MOST_CLAIMS:
        raise InvalidClaim(-1)
    for at, claim in enumerate(claims):
        if not isinstance(claim, Claim):
            raise InvalidClaim(at)


def _check_schemas(claims, schema):
    for at, claim in enumerate(claims):
        if claim.schema != schema:
            raise WrongSchema(at)


def _sums(some, others):
    """The ascending list of the exponents in the low of some claims or in the high of others."""
    sides = [claim.low for claim in some] + [claim.high for claim in others]
    return sorted(set([exponent for side in sides for exponent, _ in side.factors()]))


def _are_so_many(value, many):
    """Whether any value is a list of so many numbers from 0 on."""
    return are_numbers(value, 0) and len(value) == many


def _is_lot(value, great, facts):
    if not isinstance(value, tuple) or len(value) != 2:
        return False
    shares, covers = value
    if not isinstance(shares, tuple) or not isinstance(covers, tuple):
        return False
    return _are_so_many(shares, great) and _are_so_many(covers, facts)


def _is_power_group(value, width):
    return isinstance(value, tuple) and len(value) == 2 and is_number(value[0], 0) and is_direction_of(value[1], width)
