"""Schemas: columns, and the facts that bind their rows."""

from dealtpowers.covers import covers_of
from dealtpowers.errors import InvalidColumns, InvalidExponent, InvalidFact, InvalidText, TooMany
from dealtpowers.exponents import is_columns, is_direction_of, is_exponent_of, is_row_of, monomial, slope_of
from dealtpowers.numbers import summed
from dealtpowers.rays import rays_of
from dealtpowers.texts import fact_text_of, read_fact_of
from dealtpowers.values import is_list


class Schema:
    """One to three columns and up to four facts."""

    MOST = 4

    def __init__(self, columns, facts=()):
        if not is_columns(columns):
            raise InvalidColumns(columns)
        _check_facts(facts, len(columns))
        if len(facts) > Schema.MOST:
            raise TooMany(Schema.MOST)
        self.columns = columns
        self.width = len(columns)
        self._facts = list(facts)
        self._slopes = [slope_of(low, high) for low, high in facts]
        self._rays = rays_of(self.width, self._slopes)

    def facts(self):
        """The list of the facts."""
        return list(self._facts)

    def __contains__(self, row):
        if not is_row_of(row, self.width):
            return False
        return all([monomial(row, low) <= monomial(row, high) for low, high in self._facts])

    def rays(self):
        """The ascending list of the rays."""
        return list(self._rays)

    def is_exponent(self, value):
        """Whether any value is an exponent of this width."""
        return is_exponent_of(value, self.width)

    def fits(self, value):
        """Whether any value is a direction that fits."""
        return is_direction_of(value, self.width) and all([summed(value, slope) >= 0 for slope in self._slopes])

    def follows(self, low, high):
        """Whether all rows keep a pair of exponents."""
        self._check_pair(low, high)
        return all([summed(ray, low) <= summed(ray, high) for ray in self._rays])

    def reason(self, low, high):
        """Why a pair follows: (True, scale, covers), or why not: (False, 0, direction)."""
        self._check_pair(low, high)
        for ray in self._rays:
            if summed(ray, low) > summed(ray, high):
                return (False, 0, ray)
        scale, covers = covers_of(self._slopes, slope_of(low, high))
        return (True, scale, covers)

    def equal_sums(self, one, other):
        """Whether the sums of two exponents are equal in all tables."""
        self._check_pair(one, other)
        return all([summed(ray, one) == summed(ray, other) for ray in self._rays])

    def with_facts(self, *facts):
        """A schema with these facts behind the own ones."""
        _check_facts(facts, self.width)
        return Schema(self.columns, self._facts + list(facts))

    def fact_text(self, fact):
        """The text of a fact of this width."""
        return fact_text_of(self.columns, fact)

    def read_fact(self, text):
        """The fact with a text."""
        fact = read_fact_of(self.columns, text) if isinstance(text, str) else None
        if fact is None:
            raise InvalidText()
        return fact

    def __eq__(self, other):
        return isinstance(other, Schema) and self.columns == other.columns and self._facts == other._facts

    def __repr__(self):
        return f"Schema({self.columns}, {len(self._facts)} facts)"

    def _check_pair(self, one, other):
        for value in (one, other):
            if not is_exponent_of(value, self.width):
                raise InvalidExponent(value)


def _check_facts(facts, width):
    if not is_list(facts):
        raise InvalidFact(-1)
    for at, fact in enumerate(facts):
        if not _is_fact(fact, width):
            raise InvalidFact(at)


def _is_fact(value, width):
    return isinstance(value, tuple) and len(value) == 2 and all([is_exponent_of(part, width) for part in value])
