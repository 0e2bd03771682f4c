"""Arguments stay as they were, lists may be tuples, and parameters may be passed by name."""

import copy
import unittest

from dealtpowers.books import Book
from dealtpowers.claims import Claim, read_claim
from dealtpowers.corners import base, combined, lower_bounds, upper_bounds
from dealtpowers.judging import greatest_power, is_true
from dealtpowers.keeping import Keeper, first_broken, stretch
from dealtpowers.needs import difference, least_facts, least_lots
from dealtpowers.pages import columns_of, read_page, write_page
from dealtpowers.products import Product, read_product
from dealtpowers.schemas import Schema
from dealtpowers.tables import Table

LOW, HIGH = Product(2, [((1, 1), 2)]), Product(2, [((2, 0), 1), ((0, 2), 1)])
SCHEMA = Schema("xy", [((1, 0), (0, 1))])
CLAIM = Claim(SCHEMA, LOW, HIGH)
TABLE = Table(2, [(3, (1, 2)), (1, (4, 5))])
BOOK = Book("xy", limit=20)
BOOK.apply(("fact", "low", "x2 <= y"), ("claim", "main", "S[x]^2 <= S[] S[y]"))
# The call, its parameters in order, and the arguments.
CALLS = [
    (Schema, ["columns", "facts"], ["xy", [((2, 0), (0, 1)), ((0, 0), (1, 0))]]),
    (SCHEMA.is_exponent, ["value"], [[1, [2]]]),
    (SCHEMA.fits, ["value"], [[1, 2]]),
    (SCHEMA.follows, ["low", "high"], [(1, 0), (0, 2)]),
    (SCHEMA.reason, ["low", "high"], [(1, 0), (0, 2)]),
    (SCHEMA.equal_sums, ["one", "other"], [(1, 0), (0, 2)]),
    (SCHEMA.fact_text, ["fact"], [((1, 0), (0, 2))]),
    (SCHEMA.read_fact, ["text"], ["x <= y2"]),
    (Product, ["width", "factors"], [2, [((2, 0), 1), ((0, 2), 1), ((2, 0), 4)]]),
    (HIGH.power, ["exponent"], [(2, 0)]),
    (HIGH.power, ["exponent"], [[2, 0]]),
    (HIGH.to_the, ["number"], [3]),
    (HIGH.text, ["columns"], ["ab"]),
    (HIGH.worth, ["table"], [TABLE]),
    (read_product, ["columns", "text"], ["xy", "S[y] S[x]"]),
    (Table, ["width", "groups"], [2, [(3, (2, 2)), (1, (1, 5)), (9, (2, 2))]]),
    (Table.powers, ["width", "base", "groups"], [2, 3, [(3, (2, 2)), (0, (0, 5)), (1, (2, 2))]]),
    (TABLE.sum_of, ["exponent"], [(2, 0)]),
    (TABLE.to_the, ["number"], [3]),
    (TABLE.raised, ["number"], [3]),
    (TABLE.keeps, ["schema"], [SCHEMA]),
    (Claim, ["schema", "low", "high"], [SCHEMA, LOW, HIGH]),
    (CLAIM, ["table"], [TABLE]),
    (CLAIM.sides, ["table"], [TABLE]),
    (CLAIM.to_the, ["number"], [3]),
    (CLAIM.times, ["product"], [HIGH]),
    (CLAIM.moved, ["schema", "images"], [Schema("abc"), [(1, 0, 0), (1, 1, 0)]]),
    (read_claim, ["schema", "text"], [SCHEMA, "S[y] <= S[x]"]),
    (is_true, ["claim"], [CLAIM]),
    (greatest_power, ["claim"], [CLAIM]),
    (upper_bounds, ["schema", "sums", "goal"], [SCHEMA, [(2, 0), (0, 1)], (1, 1)]),
    (lower_bounds, ["schema", "sums", "goal"], [SCHEMA, [(2, 0), (0, 1)], (1, 1)]),
    (base, ["schema", "sums"], [SCHEMA, [(2, 0), (0, 1)]]),
    (combined, ["claim", "claims"], [CLAIM, [CLAIM, CLAIM.turned()]]),
    (stretch, ["schema", "known", "goal"], [SCHEMA, [((2, 0), 5), ((0, 2), 9)], (1, 1)]),
    (first_broken, ["schema", "known"], [SCHEMA, [((2, 0), 5), ((0, 2), 4)]]),
    (Keeper, ["schema", "sums"], [SCHEMA, [(2, 0), (0, 1)]]),
    (difference, ["one", "other"], [SCHEMA, Schema("xy")]),
    (least_facts, ["claim"], [CLAIM]),
    (least_lots, ["schema", "pool", "goals"], [SCHEMA, [(2, 0), (0, 1)], [(1, 1)]]),
    (write_page, ["book"], [BOOK]),
    (read_page, ["text"], [write_page(BOOK)]),
    (columns_of, ["book"], [BOOK]),
    (Book, ["columns"], ["xy"]),
    (BOOK.kind_of, ["name"], ["main"]),
    (BOOK.text_of, ["name"], ["main"]),
    (BOOK.claim, ["name"], ["main"]),
]


class ArgumentsTest(unittest.TestCase):
    def test_they_stay(self):
        for call, _, arguments in CALLS:
            before = copy.deepcopy(arguments)
            call(*arguments)
            self.assertEqual(arguments, before, call)
            self.assertEqual([type(item) for item in arguments], [type(item) for item in before])

    def test_by_position_and_by_name(self):
        for call, names, arguments in CALLS:
            wanted = call(*arguments)
            self.assertEqual(call(**dict(zip(names, arguments))), wanted)
            self.assertEqual(call(**dict(reversed(list(zip(names, arguments))))), wanted)
            self.assertEqual(call(*arguments[:1], **dict(list(zip(names, arguments))[1:])), wanted)

    def test_lists_may_be_tuples(self):
        for call, names, arguments in CALLS:
            for at, name in enumerate(names):
                if name in ("facts", "factors", "groups", "images", "sums", "known", "claims", "pool", "goals"):
                    others = [*arguments[:at], tuple(arguments[at]), *arguments[at + 1:]]
                    self.assertEqual(call(*others), call(*arguments))

    def test_equal_calls_return_equal_results(self):
        for call, _, arguments in CALLS:
            self.assertEqual(call(*arguments), call(*copy.deepcopy(arguments)))

    def test_many_arguments(self):
        exponents = [(1, 0), (0, 1), (1, 0)]
        self.assertEqual(Product.of(*exponents, width=2), Product(2, [((1, 0), 2), ((0, 1), 1)]))
        with self.assertRaises(TypeError):
            SCHEMA.with_facts(facts=[])
        facts = [((1, 0), (0, 1)), ((0, 0), (1, 0))]
        self.assertEqual(SCHEMA.with_facts(*facts).facts(), [((1, 0), (0, 1))] + facts)
        self.assertEqual(facts, [((1, 0), (0, 1)), ((0, 0), (1, 0))])

    def test_operators_leave_both(self):
        before = copy.deepcopy([LOW, HIGH, TABLE, CLAIM])
        for call in (lambda: LOW * HIGH, lambda: LOW ** 2, lambda: TABLE + TABLE, lambda: TABLE * TABLE,
                     lambda: TABLE ** 2, lambda: CLAIM * CLAIM, lambda: CLAIM ** 2, CLAIM.turned):
            self.assertEqual(call(), call())
            self.assertEqual([LOW, HIGH, TABLE, CLAIM], before)

    def test_what_is_returned_may_change(self):
        for call in (SCHEMA.facts, SCHEMA.rays, HIGH.factors, TABLE.groups, BOOK.names):
            before = copy.deepcopy(call())
            call().append(None)
            call()[0] = None
            call().clear()
            self.assertEqual(call(), before)
            self.assertIs(type(call()), list)


if __name__ == "__main__":
    unittest.main()
