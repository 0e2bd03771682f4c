"""Claims: one product of sums is at most another one."""

from dealtpowers.comparing import is_at_most
from dealtpowers.errors import InvalidExponent, InvalidFact, InvalidText, TooHigh, WrongSchema, WrongWidth
from dealtpowers.numbers import summed
from dealtpowers.products import Product, read_product
from dealtpowers.values import is_list


class Claim:
    """A claim about all tables of a schema."""

    def __init__(self, schema, low, high):
        for side in (low, high):
            if side.width != schema.width:
                raise WrongWidth(side.width)
        self.schema = schema
        self.low = low
        self.high = high

    def __call__(self, table):
        self._check_width(table)
        return is_at_most(_parts(self.low, table), _parts(self.high, table))

    def sides(self, table):
        """The pair of the worths of low and high in a table."""
        self._check_width(table)
        return (self.low.worth(table), self.high.worth(table))

    def __mul__(self, other):
        if not isinstance(other, Claim) or self.schema != other.schema:
            raise WrongSchema(1)
        return Claim(self.schema, self.low * other.low, self.high * other.high)

    def to_the(self, number):
        """The claim with both sides to the power of the number."""
        return Claim(self.schema, self.low.to_the(number), self.high.to_the(number))

    def __pow__(self, other):
        return self.to_the(other)

    def turned(self):
        """The claim with low and high exchanged."""
        return Claim(self.schema, self.high, self.low)

    def times(self, product):
        """The claim with both sides times a product."""
        self._check_width(product)
        return Claim(self.schema, self.low * product, self.high * product)

    def moved(self, schema, images):
        """The claim in another schema, with an exponent of it in the place of each own column."""
        _check_images(schema, images, self.schema.width)
        facts = [(_image(low, images), _image(high, images)) for low, high in self.schema.facts()]
        low = _moved_factors(self.low, images)
        high = _moved_factors(self.high, images)
        for at, fact in enumerate(facts):
            if not _are_exponents(schema, fact):
                raise TooHigh(at)
        if not _are_exponents(schema, [exponent for exponent, _ in low + high]):
            raise TooHigh(-1)
        for at, fact in enumerate(facts):
            if not schema.follows(fact[0], fact[1]):
                raise InvalidFact(at)
        return Claim(schema, Product(schema.width, low), Product(schema.width, high))

    def text(self):
        """The text of the claim."""
        columns = self.schema.columns
        return f"{self.low.text(columns)} <= {self.high.text(columns)}"

    def __eq__(self, other):
        if not isinstance(other, Claim):
            return False
        return self.schema == other.schema and self.low == other.low and self.high == other.high

    def __repr__(self):
        return f"Claim({self.text()})"

    def _check_width(self, other):
        if other.width != self.schema.width:
            raise WrongWidth(other.width)


def read_claim(schema, text):
    """The claim with a text."""
    sides = text.split(" <= ") if isinstance(text, str) else []
    if len(sides) != 2:
        raise InvalidText()
    return Claim(schema, read_product(schema.columns, sides[0]), read_product(schema.columns, sides[1]))


def _parts(product, table):
    """The pairs of the sum in a table and its power, for each factor of a product."""
    return [(table.sum_of(exponent), times) for exponent, times in product.factors()]


def _check_images(schema, images, many):
    if not is_list(images) or len(images) != many:
        raise InvalidExponent(-1)
    for at, image in enumerate(images):
        if not schema.is_exponent(image):
            raise InvalidExponent(at)


def _are_exponents(schema, values):
    return all([schema.is_exponent(value) for value in values])


def _moved_factors(product, images):
    return [(_image(exponent, images), times) for exponent, times in product.factors()]


def _image(exponent, images):
    """What becomes of an exponent when images stand in the places of its columns."""
    return tuple([summed(exponent, [image[at] for image in images]) for at in range(len(images[0]))])
