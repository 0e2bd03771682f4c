"""Keeps the sums of an unseen table, and bounds its other sums by them."""

from dealtpowers.bounding import greatest_with, holds_with, least_with
from dealtpowers.corners import base, lower_bounds, upper_bounds
from dealtpowers.errors import BrokenClaim, Empty, InvalidDeed, InvalidExponent, InvalidRow
from dealtpowers.errors import NoTable, NothingLeft, NotThere
from dealtpowers.exponents import monomial
from dealtpowers.numbers import is_number
from dealtpowers.sums import check_known, check_sums, check_unequal


def stretch(schema, known, goal):
    """The pair of the least and the greatest number that a sum can be, by the bounds that known sums give."""
    check_known(schema, known)
    if not schema.is_exponent(goal):
        raise InvalidExponent(goal)
    sums = [exponent for exponent, _ in known]
    numbers = _numbers(known)
    least = least_with(lower_bounds(schema, sums, goal), goal, numbers, numbers.get(goal, 1))
    greatest = greatest_with(upper_bounds(schema, sums, goal), goal, numbers)
    if greatest is not None and least > greatest:
        raise NoTable()
    return (least, greatest)


def first_broken(schema, known):
    """The first claim of the base of known sums that does not hold with their numbers, or None."""
    check_known(schema, known)
    return _first_broken(base(schema, [exponent for exponent, _ in known]), known)


class Keeper:
    """The sums of a table that is not seen, while rows are put in and struck."""

    def __init__(self, schema, sums):
        check_sums(schema, sums)
        check_unequal(schema, sums)
        self.schema = schema
        self._sums = list(sums)
        self._numbers = [0] * len(sums)
        self._base = None
        self._done = []
        self._undone = []
        self._busy = False

    def sums(self):
        """The list of the exponents."""
        return list(self._sums)

    @property
    def busy(self):
        """Whether deeds are being done."""
        return self._busy

    def apply(self, *deeds):
        """Does all deeds as one step, or none."""
        for at, deed in enumerate(deeds):
            if not _is_deed(deed):
                raise InvalidDeed(at)
        self._busy = True
        try:
            numbers = self._numbers
            for word, row, count in deeds:
                numbers = self._behind(numbers, word, row, count)
        finally:
            self._busy = False
        self._done.append(self._numbers)
        self._undone = []
        self._numbers = numbers

    def put(self, row, *, count=1):
        """Puts in so many equal rows, as one step."""
        self.apply(("put", row, count))

    def strike(self, row, *, count=1):
        """Strikes so many equal rows, as one step."""
        self.apply(("strike", row, count))

    def undo(self):
        """Takes the last step back."""
        if not self._done:
            raise NothingLeft()
        self._undone.append(self._numbers)
        self._numbers = self._done.pop()

    def redo(self):
        """Makes the step again that was taken back last."""
        if not self._undone:
            raise NothingLeft()
        self._done.append(self._numbers)
        self._numbers = self._undone.pop()

    def history(self):
        """The pair of the numbers of steps that can be undone and redone."""
        return (len(self._done), len(self._undone))

    def known(self):
        """The list of the pairs of an exponent and its sum."""
        return list(zip(self._sums, self._numbers))

    def stretch(self, goal):
        """The stretch of a goal by the sums."""
        if not self.schema.is_exponent(goal):
            raise InvalidExponent(goal)
        if not any(self._numbers):
            raise Empty()
        return stretch(self.schema, self.known(), goal)

    def twin(self):
        """An independent keeper with the same schema, sums, numbers and steps."""
        other = Keeper(self.schema, self._sums)
        other._numbers = self._numbers
        other._base = self._base
        other._done = list(self._done)
        other._undone = list(self._undone)
        return other

    def __len__(self):
        return len(self._sums)

    def __bool__(self):
        return True

    def __eq__(self, other):
        if not isinstance(other, Keeper):
            return False
        return self.schema == other.schema and self._sums == other._sums and self._numbers == other._numbers

    def __repr__(self):
        return f"Keeper({len(self._sums)} sums)"

    def _behind(self, numbers, word, row, count):
        """The numbers of the sums behind a deed."""
        if row not in self.schema:
            raise InvalidRow(row)
        gains = [count * monomial(row, exponent) for exponent in self._sums]
        if word == "put":
            return [number + gain for number, gain in zip(numbers, gains)]
        fresh = [number - gain for number, gain in zip(numbers, gains)]
        if not any(fresh):
            return fresh
        if min(fresh) <= 0:
            raise NotThere()
        self._check_claims(fresh)
        return fresh

    def _check_claims(self, numbers):
        """Refuses numbers that no table with rows has."""
        if self._base is None:
            # It is long sought, and no deed but a strike asks for it.
            self._base = base(self.schema, self._sums)
        broken = _first_broken(self._base, list(zip(self._sums, numbers)))
        if broken is not None:
            raise BrokenClaim(broken.text())


def _is_deed(value):
    if not isinstance(value, tuple) or len(value) != 3:
        return False
    return value[0] in ("put", "strike") and is_number(value[2], 1)


def _numbers(known):
    return {exponent: number for exponent, number in known}


def _first_broken(claims, known):
    numbers = _numbers(known)
    for claim in claims:
        if not holds_with(claim, numbers):
            return claim
    return None
