"""The examples of the document and of README.md."""

import doctest
import unittest
from pathlib import Path

from dealtpowers.claims import read_claim
from dealtpowers.corners import base, corners, upper_bounds
from dealtpowers.desk import Desk
from dealtpowers.errors import BrokenClaim, Tight
from dealtpowers.judging import greatest_power, judge
from dealtpowers.keeping import Keeper, stretch
from dealtpowers.needs import least_facts, least_lots
from dealtpowers.papers import Dealt, Failing
from dealtpowers.products import Product
from dealtpowers.schemas import Schema
from dealtpowers.systems import least_cost, solve
from dealtpowers.tables import Table

README = Path(__file__).resolve().parent.parent / "README.md"


class ExamplesTest(unittest.TestCase):
    def test_schemas(self):
        schema = Schema("xy", [((2, 0), (0, 1))])
        self.assertEqual([schema.rays(), schema.follows((1, 0), (0, 1)), (2, 4) in schema, (2, 3) in schema, repr(schema)],
                         [[(0, 1), (1, 2)], True, True, False, "Schema(xy, 1 facts)"])

    def test_products(self):
        product = Product.of((1, 1), (1, 1), (0, 2), width=2)
        self.assertEqual([product.factors(), product.text("xy"), (product * product).power((0, 2)), len(product)],
                         [[((0, 2), 1), ((1, 1), 2)], "S[y2] S[x y]^2", 2, 2])

    def test_tables(self):
        table = Table(2, [(3, (1, 2)), (1, (4, 5))])
        self.assertEqual([table.size, table.sum_of((1, 1)), (table * table).size, table.raised(2).groups()],
                         [4, 26, 16, [(3, (1, 4)), (1, (16, 25))]])

    def test_judging(self):
        deal = judge(read_claim(Schema("xy"), "S[x y]^2 <= S[y2] S[x2]"))
        self.assertEqual([deal.told(), deal.holds(), judge(read_claim(Schema("xy"), "S[y] S[x] <= S[] S[x y]")).told()],
                         ["dealt", True, "failing"])
        self.assertEqual(greatest_power(read_claim(Schema("x"), "S[x3] <= S[x2]^2")), (4, 3))
        column = Schema("x")
        with self.assertRaises(Tight):
            judge(read_claim(column, "S[x] <= S[]"), premises=[read_claim(column, "S[x2] <= S[x]")])

    def test_papers(self):
        claim = read_claim(Schema("x"), "S[x]^2 <= S[] S[x2]")
        self.assertEqual([Dealt([claim], [], [1], [], [((1, 1), ())]).holds(),
                          Dealt([claim], [], [1], [], [((2, 0), ())]).holds()], [True, False])
        claim = read_claim(Schema("x"), "S[x2] <= S[x]")
        paper = Failing([claim], [], 2, [(0, (1,))])
        self.assertEqual([paper.holds(), paper.table().groups(), claim.sides(paper.table())], [True, [(1, (2,))], (4, 2)])

    def test_corners(self):
        self.assertEqual([list(corners(Schema("x"), [(0,), (2,)], (1,))),
                          upper_bounds(Schema("x"), [(0,), (2,)], (1,))[1].text()],
                         [[(1, (0, 1)), (2, (1, 1))], "S[x]^2 <= S[] S[x2]"])
        found = base(Schema("x"), [(0,), (1,), (2,)])
        self.assertEqual([len(found), found[0].text(), found[1].text(), found[2].text()],
                         [3, "S[] <= S[x]", "S[x]^2 <= S[] S[x2]", "S[x2] <= S[x]^2"])

    def test_keeping(self):
        self.assertEqual(stretch(Schema("x"), [((0,), 3), ((2,), 50)], (1,)), (8, 12))
        keeper = Keeper(Schema("x"), [(0,), (1,), (2,)])
        keeper.put((2,), count=4)
        with self.assertRaises(BrokenClaim):
            keeper.strike((3,))

    def test_needs(self):
        schema = Schema("xy", [((1, 0), (0, 1)), ((2, 0), (0, 1))])
        self.assertEqual([least_facts(read_claim(schema, "S[x] <= S[y]")),
                          least_lots(Schema("xy"), [(2, 0), (0, 1), (1, 1)], [(1, 1)])], [[(0,), (1,)], [(2,), (0, 1)]])

    def test_desk(self):
        desk = Desk()
        self.assertEqual([desk("fact low x2 <= y"), desk("claim main S[x]^2 <= S[] S[y]"), desk("judge main"),
                          desk("power main"), desk("drop low"), desk("judge main"), desk("show main"), desk("judge")],
                         ["done", "done", "dealt", "1/1", "done", "failing", "claim S[x]^2 <= S[] S[y]", "unknown"])

    def test_systems(self):
        self.assertEqual([least_cost([1], [[2], [3]], [1, 1]), bool(solve([[1], [-1]], [2, -1])),
                          bool(solve([[1], [-1]], [2, -3]))], [(1, 2), False, True])

    def test_texts(self):
        self.assertEqual(read_claim(Schema("xy"), "S[x y]^2 <= S[y2] S[x2]").text(), "S[x y]^2 <= S[y2] S[x2]")
        self.assertEqual([Schema("xy").read_fact("x2 <= y"), repr(read_claim(Schema("x"), "S[x] <= S[x2]"))],
                         [((2, 0), (0, 1)), "Claim(S[x] <= S[x2])"])

    def test_readme(self):
        text = README.read_text(encoding="ascii").replace("```", "")
        test = doctest.DocTestParser().get_doctest(text, {}, "README.md", str(README), 0)
        self.assertGreater(len(test.examples), 15)
        told = []
        doctest.DocTestRunner(verbose=False).run(test, out=told.append)
        self.assertEqual(told, [])


if __name__ == "__main__":
    unittest.main()
