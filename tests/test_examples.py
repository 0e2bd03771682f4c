"""The examples of the document and of README.md."""

import doctest
import unittest
from pathlib import Path

from dealtpowers.claims import read_claim
from dealtpowers.products import Product
from dealtpowers.schemas import Schema
from dealtpowers.tables import Table

README = Path(__file__).resolve().parent.parent / "README.md"


class ExamplesTest(unittest.TestCase):
    def test_schemas(self):
        schema = Schema("xy", [((2, 0), (0, 1))])
        self.assertEqual([schema.rays(), schema.follows((1, 0), (0, 1)), (2, 4) in schema, (2, 3) in schema, repr(schema)],
                         [[(0, 1), (1, 2)], True, True, False, "Schema(xy, 1 facts)"])

    def test_products(self):
        product = Product.of((1, 1), (1, 1), (0, 2), width=2)
        self.assertEqual([product.factors(), product.text("xy"), (product * product).power((0, 2)), len(product)],
                         [[((0, 2), 1), ((1, 1), 2)], "S[y2] S[x y]^2", 2, 2])

    def test_tables(self):
        table = Table(2, [(3, (1, 2)), (1, (4, 5))])
        self.assertEqual([table.size, table.sum_of((1, 1)), (table * table).size, table.raised(2).groups()],
                         [4, 26, 16, [(3, (1, 4)), (1, (16, 25))]])

    def test_claims(self):
        # The texts and tables of the examples that come with the modules behind this one.
        self.assertEqual(read_claim(Schema("xy"), "S[x y]^2 <= S[y2] S[x2]").text(), "S[x y]^2 <= S[y2] S[x2]")
        claim = read_claim(Schema("x"), "S[x2] <= S[x]")
        table = Table.powers(1, 2, [(0, (1,))])
        self.assertEqual([table.groups(), claim.sides(table), claim(table)], [[(1, (2,))], (4, 2), False])
        schema = Schema("xy")
        self.assertEqual([schema.read_fact("x2 <= y"), repr(read_claim(Schema("x"), "S[x] <= S[x2]"))],
                         [((2, 0), (0, 1)), "Claim(S[x] <= S[x2])"])

    def test_readme(self):
        text = README.read_text(encoding="ascii").replace("```", "")
        test = doctest.DocTestParser().get_doctest(text, {}, "README.md", str(README), 0)
        self.assertGreater(len(test.examples), 15)
        told = []
        doctest.DocTestRunner(verbose=False).run(test, out=told.append)
        self.assertEqual(told, [])


if __name__ == "__main__":
    unittest.main()
