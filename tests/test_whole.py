"""Point [2] of the document over the whole program, and what its parts say about each other."""

import random
import unittest
from itertools import permutations

from dealtpowers.books import Book
from dealtpowers.claims import Claim
from dealtpowers.corners import base, combined, corners, lower_bounds, upper_bounds
from dealtpowers.desk import Desk
from dealtpowers.errors import EqualSums, NoTable, Tight, TooMany
from dealtpowers.judging import greatest_power, is_true, judge
from dealtpowers.keeping import Keeper, first_broken, stretch
from dealtpowers.needs import difference, least_facts, least_lots
from dealtpowers.pages import read_page, write_page
from dealtpowers.products import Product
from dealtpowers.schemas import Schema
from dealtpowers.systems import solve
from questions import kept_premises, random_claim, random_schema
from samples import keeps, plain_sum, raised_by, random_exponent, random_facts, random_row, rays_in

LINE = [(0,), (1,), (2,)]


def told(call, *arguments, **named):
    """What a call returns, or the code of its error."""
    error = raised_by(call, *arguments, **named)
    return error[0] if error else call(*arguments, **named)


class OtherOrdersTest(unittest.TestCase):
    """The columns of a schema in another order give the same answers, moved."""

    def setUp(self):
        self.pick = random.Random(1)

    def moved(self, exponent):
        return tuple(exponent[at] for at in self.order)

    def moved_claim(self, claim):
        images = [tuple(int(at == place) for at in self.order) for place in range(claim.schema.width)]
        return claim.moved(self.moved_schema(claim.schema), images)

    def moved_schema(self, schema):
        return Schema("".join(schema.columns[at] for at in self.order),
                      [(self.moved(low), self.moved(high)) for low, high in schema.facts()])

    def schemas(self, many):
        for _ in range(many):
            schema = random_schema(self.pick, 3)
            self.order = self.pick.choice(list(permutations(range(schema.width))))
            yield schema, self.moved_schema(schema)

    def test_schemas(self):
        for schema, other in self.schemas(100):
            self.assertEqual(sorted(self.moved(ray) for ray in schema.rays()), other.rays())
            low, high, row = (random_exponent(self.pick, schema.width, 3) for _ in range(3))
            self.assertEqual(schema.follows(low, high), other.follows(self.moved(low), self.moved(high)))
            self.assertEqual(row in schema, self.moved(row) in other)

    def test_verdicts(self):
        for schema, other in self.schemas(100):
            claims = [random_claim(self.pick, schema, 3) for _ in range(2)]
            premises = kept_premises(self.pick, schema, 1) + [random_claim(self.pick, schema, 2)]
            turned = [[self.moved_claim(claim) for claim in some] for some in (claims, premises)]
            papers = []
            for some, more in ((claims, premises), turned):
                try:
                    papers.append(judge(*some, premises=more).told())
                except Tight as error:
                    papers.append(repr(error.paper))
            self.assertEqual(papers[0], papers[1])
            for claim in claims:
                self.assertEqual(is_true(claim), is_true(self.moved_claim(claim)))
                self.assertEqual(told(greatest_power, claim), told(greatest_power, self.moved_claim(claim)))
                self.assertEqual(least_facts(claim), least_facts(self.moved_claim(claim)))

    def test_bounds(self):
        for schema, other in self.schemas(80):
            sums = sorted({random_exponent(self.pick, schema.width, 3) for _ in range(4)}, key=lambda _: self.pick.random())
            goal = random_exponent(self.pick, schema.width, 3)
            others = [self.moved(exponent) for exponent in sums]
            self.assertEqual(list(corners(schema, sums, goal)), list(corners(other, others, self.moved(goal))))
            for call in (upper_bounds, lower_bounds):
                self.assertEqual([self.moved_claim(claim) for claim in call(schema, sums, goal)],
                                 call(other, others, self.moved(goal)))
            self.assertEqual(least_lots(schema, sums, [goal]), least_lots(other, others, [self.moved(goal)]))
            try:
                found = {self.moved_claim(claim).text() for claim in base(schema, sums)}
                self.assertEqual(found, {claim.text() for claim in base(other, others)})
            except EqualSums as error:
                self.assertEqual(raised_by(base, other, others), ("EqualSums", error.at))
            rows = [row for row in (random_row(self.pick, schema.width) for _ in range(4)) if keeps(row, schema.facts())]
            if rows:
                known = [(exponent, plain_sum(rows, exponent)) for exponent in sums]
                self.assertEqual(stretch(schema, known, goal),
                                 stretch(other, [(self.moved(exponent), number) for exponent, number in known],
                                         self.moved(goal)))

    def test_differences(self):
        for schema, other in self.schemas(60):
            third = Schema(schema.columns, schema.facts()[1:] + random_facts(self.pick, schema.width, 1, 2))
            found = difference(schema, third), difference(other, self.moved_schema(third))
            self.assertEqual(found[0] is None, found[1] is None)
            self.assertEqual(found[0] and found[0][0], found[1] and found[1][0])


class AgreementTest(unittest.TestCase):
    """What the parts say about each other."""

    def test_bounds_are_true_claims_and_none_is_better(self):
        pick = random.Random(2)
        for _ in range(80):
            schema = random_schema(pick, 3)
            sums = sorted({random_exponent(pick, schema.width, 3) for _ in range(3)})
            goal = random_exponent(pick, schema.width, 3)
            for claim in upper_bounds(schema, sums, goal):
                self.assertEqual([is_true(claim), greatest_power(claim)], [True, (1, 1)])
            self.assertTrue(all(is_true(claim) for claim in lower_bounds(schema, sums, goal)))

    def test_true_claims_hold_in_all_tables_of_few_rows(self):
        pick = random.Random(3)
        for _ in range(100):
            schema = random_schema(pick, 2)
            claim = random_claim(pick, schema, 2, 2, 2)
            if is_true(claim):
                for _ in range(20):
                    rows = [row for row in (random_row(pick, schema.width, 5) for _ in range(4)) if row in schema]
                    held = {exponent: plain_sum(rows or [(1,) * schema.width], exponent)
                            for side in (claim.low, claim.high) for exponent, _ in side.factors()}
                    sides = []
                    for side in (claim.low, claim.high):
                        sides.append(1)
                        for exponent, power in side.factors():
                            sides[-1] *= held[exponent] ** power
                    self.assertLessEqual(*sides)

    def test_keepers_never_break_a_claim_while_rows_are_put(self):
        pick = random.Random(4)
        for _ in range(60):
            schema = random_schema(pick, 2)
            sums = sorted({random_exponent(pick, schema.width, 2) for _ in range(4)})
            if raised_by(Keeper, schema, sums):
                continue
            keeper = Keeper(schema, sums)
            rows = [row for row in (random_row(pick, schema.width, 4) for _ in range(6)) if row in schema]
            for row in rows:
                keeper.put(row)
                self.assertIsNone(first_broken(schema, keeper.known()))
            for row in rows:
                keeper.strike(row)
            self.assertEqual(keeper.known(), [(exponent, 0) for exponent in sums])

    def test_the_base_gives_what_is_true(self):
        schema = Schema("xy", [((2, 0), (0, 1))])
        sums = [(0, 0), (1, 0), (0, 1), (2, 1)]
        found = base(schema, sums)
        self.assertTrue(all(is_true(claim) for claim in found))
        whole = found[0] ** 2 * found[1] * found[-1] ** 3
        self.assertIsNotNone(combined(whole, found))
        self.assertIsNone(combined(whole.turned(), found))

    def test_rays(self):
        schema = Schema("xy", [((2, 1), (0, 3))])
        self.assertEqual(schema.rays(), rays_in(2, schema.facts(), 6))


class SideBySideTest(unittest.TestCase):
    """Two objects side by side have nothing in common."""

    def test_books_desks_and_keepers(self):
        one, other = Book("xy"), Book("xy")
        one.apply(("claim", "a", "S[x] <= S[y]"))
        one.verdict("a")
        self.assertEqual([other.names(), other.kept(), other.computed, other.history()], [[], [], 0, (0, 0)])
        first, second = Desk(), Desk()
        first("claim a 1 <= 1")
        self.assertEqual([second("names"), first("names"), len(first), len(second)], ["none", "a", 2, 1])
        left, right = Keeper(Schema("x"), LINE), Keeper(Schema("x"), LINE)
        left.put((2,))
        self.assertEqual([right.known()[0], right.history()], [((0,), 0), (0, 0)])

    def test_returned_values_may_be_passed(self):
        schema = Schema("x")
        paper = judge(*base(schema, LINE)[:2])
        self.assertTrue(paper.holds())
        found = solve([[2], [3]], [1, 1])
        self.assertTrue(type(found)(found.rows(), found.bounds(), found.scale, found.numbers()).holds())
        again = type(paper)(paper.claims(), paper.premises(), paper.weights(), paper.uses(), paper.lots())
        self.assertEqual([again.holds(), again.lots()], [True, paper.lots()])
        known = [((0,), 2), ((1,), 10 ** 60 - 1)]
        least, greatest = stretch(schema, known, (6,))
        self.assertEqual(stretch(schema, [*known, ((6,), greatest)], (6,)), (greatest, greatest))
        self.assertRaises(NoTable, stretch, schema, [*known, ((6,), greatest + 1)], (6,))
        self.assertTrue(1 <= least <= greatest)
        self.assertRaises(TooMany, lower_bounds, schema, [(at,) for at in range(5)], (6,))

    def test_papers_of_a_book_do_not_change(self):
        book = read_page("columns x\npremise p: S[x2] <= S[x]^3\nclaim c: S[x2] <= S[x]\n")
        paper = book.verdict("c")
        before = [paper.claims(), paper.premises(), paper.told(), paper.holds()]
        paper.claims().clear()
        paper.premises().append(None)
        self.assertEqual([book.verdict("c").claims(), book.verdict("c").premises()], before[:2])
        book.apply(("drop", "p"))
        self.assertEqual([paper.claims(), paper.premises(), paper.told(), paper.holds()], before)
        self.assertEqual(book.verdict("c").premises(), [])
        self.assertEqual(write_page(book), "columns x\nclaim c: S[x2] <= S[x]\n")

    def test_equal_calls_on_equal_objects(self):
        pick = random.Random(5)
        for _ in range(40):
            schema = random_schema(pick)
            same = Schema(schema.columns, schema.facts())
            claim = random_claim(pick, schema, 3)
            again = Claim(same, Product(schema.width, claim.low.factors()), Product(schema.width, claim.high.factors()))
            one, other = judge(claim), judge(again)
            self.assertEqual([one.told(), one.claims()], [other.told(), other.claims()])
            if one:
                self.assertEqual([one.weights(), one.lots()], [other.weights(), other.lots()])
            else:
                self.assertEqual([one.base, one.groups()], [other.base, other.groups()])
            low, high = (random_exponent(pick, schema.width) for _ in range(2))
            self.assertEqual(schema.reason(low, high), same.reason(low, high))


if __name__ == "__main__":
    unittest.main()
