"""Points [12], [13] and [15] of the document, and dealtpowers/papers.py."""

import copy
import random
import unittest

from dealtpowers.claims import Claim, read_claim
from dealtpowers.errors import Tight
from dealtpowers.judging import judge
from dealtpowers.papers import Dealt, Failing, Verdict
from dealtpowers.products import Product
from dealtpowers.schemas import Schema
from dealtpowers.tables import Table
from questions import (fails_at, great_of, is_right_deal, kept_premises, power_in, random_claim,
                       random_groups_of_powers, random_schema, small_of)
from samples import ANY_VALUES, raised_by

COLUMN = Schema("x")
MEAN = read_claim(COLUMN, "S[x]^2 <= S[] S[x2]")
LESS = read_claim(COLUMN, "S[x] <= S[x2]")
MORE = read_claim(COLUMN, "S[x2] <= S[x]")
OTHER = read_claim(Schema("y"), "S[y] <= S[y2]")
BOUND = Schema("xy", [((2, 0), (0, 1))])
COVERED = read_claim(BOUND, "S[x]^2 <= S[] S[y]")


class QuestionTest(unittest.TestCase):
    def test_sums(self):
        pick = random.Random(1)
        for _ in range(200):
            schema = random_schema(pick)
            claims = [random_claim(pick, schema, 4) for _ in range(pick.randint(1, 4))]
            premises = [random_claim(pick, schema, 4) for _ in range(pick.randint(0, 4))]
            for paper in (Verdict(claims, premises), Dealt(claims, premises, 0, 0, 0), Failing(claims, premises, 0, 0)):
                self.assertEqual(paper.small_sums(), small_of(claims, premises))
                self.assertEqual(paper.great_sums(), great_of(claims, premises))
                self.assertEqual([paper.claims(), paper.premises()], [claims, premises])

    def test_sums_by_hand(self):
        premise = read_claim(COLUMN, "S[x4] <= S[x3]^5")
        paper = Verdict([MEAN, LESS], [premise])
        self.assertEqual(paper.small_sums(), [(1,), (3,)])
        self.assertEqual(paper.great_sums(), [(0,), (2,), (4,)])
        self.assertEqual([Verdict([MEAN]).small_sums(), Verdict([MEAN]).great_sums()], [[(1,)], [(0,), (2,)]])

    def test_a_verdict_itself(self):
        for paper in (Verdict([MEAN]), Verdict([MEAN], []), Verdict((MEAN,), (LESS,)), Verdict(claims=[MEAN], premises=())):
            self.assertEqual([paper.told(), paper.holds(), bool(paper), repr(paper)],
                             ["open", False, False, "Verdict(open)"])
            self.assertEqual(paper.claims(), [MEAN])
            self.assertIs(type(paper.premises()), list)

    def test_what_is_told(self):
        dealt, failing = Dealt([MEAN], [], 0, 0, 0), Failing([MEAN], [], 0, 0)
        self.assertEqual([dealt.told(), bool(dealt), repr(dealt)], ["dealt", True, "Verdict(dealt)"])
        self.assertEqual([failing.told(), bool(failing), repr(failing)], ["failing", False, "Verdict(failing)"])
        self.assertTrue(isinstance(dealt, Verdict) and isinstance(failing, Verdict))
        self.assertFalse(isinstance(dealt, Failing) or isinstance(failing, Dealt))


class ErrorsTest(unittest.TestCase):
    CALLS = [lambda claims, premises: Verdict(claims, premises),
             lambda claims, premises: Dealt(claims, premises, [1], [], []),
             lambda claims, premises: Failing(claims, premises, 2, [])]

    def check(self, claims, premises, wanted):
        for call in self.CALLS:
            self.assertEqual(raised_by(call, claims, premises), wanted, (claims, premises))
        if isinstance(claims, (list, tuple)):
            self.assertEqual(raised_by(judge, *claims, premises=premises), wanted)

    def test_lists(self):
        for value in ANY_VALUES:
            if not isinstance(value, (list, tuple)):
                self.check(value, [], ("InvalidClaim", -1))
                self.check([MEAN], value, ("InvalidClaim", -1))
        for value in ([], (), [MEAN] * 5, (MEAN,) * 60, [None] * 5):
            self.check(value, [], ("InvalidClaim", -1))
        for value in ([MEAN] * 5, (None,) * 5, [1] * 60):
            self.check([MEAN], value, ("InvalidClaim", -1))
        for many in range(1, 5):
            for more in range(5):
                Verdict([MEAN] * many, [LESS] * more)
                Verdict((MEAN,) * many, (LESS,) * more)

    def test_items(self):
        for value in ANY_VALUES:
            if not isinstance(value, Claim):
                self.check([value], [], ("InvalidClaim", 0))
                self.check([MEAN, LESS, value, value], [], ("InvalidClaim", 2))
                self.check([MEAN], (MEAN, value), ("InvalidClaim", 1))
                self.check([MEAN], [value, OTHER], ("InvalidClaim", 0))

    def test_schemas(self):
        self.check([MEAN, OTHER, MEAN], [], ("WrongSchema", 1))
        self.check([OTHER, MEAN, MEAN], [], ("WrongSchema", 1))
        self.check([MEAN, LESS, OTHER], [], ("WrongSchema", 2))
        self.check([MEAN], [OTHER], ("WrongSchema", 0))
        self.check([OTHER], [OTHER, MEAN], ("WrongSchema", 1))
        facts = Schema("x", [((0,), (1,))])
        self.check([MEAN, Claim(facts, MEAN.low, MEAN.high)], [], ("WrongSchema", 1))
        self.check([MEAN], [MEAN, Claim(facts, MEAN.low, MEAN.high)], ("WrongSchema", 1))
        Verdict([MEAN, Claim(Schema("x"), LESS.low, LESS.high)])

    def test_order(self):
        self.check([MEAN, OTHER, None], 5, ("InvalidClaim", 2))
        self.check([MEAN, OTHER], 5, ("WrongSchema", 1))
        self.check([MEAN, OTHER], [None], ("WrongSchema", 1))
        self.check([MEAN], [OTHER, None], ("InvalidClaim", 1))
        self.check([], 5, ("InvalidClaim", -1))
        self.check([None], 5, ("InvalidClaim", 0))
        self.check([MEAN], [OTHER] * 5, ("InvalidClaim", -1))


class DealtTest(unittest.TestCase):
    def test_by_hand(self):
        right = [((1, 1), ())]
        self.assertTrue(Dealt([MEAN], [], [1], [], right).holds())
        self.assertTrue(Dealt([MEAN], [], [3], [], [((3, 3), ())]).holds())
        for weights, lots in (([1], [((2, 0), ())]), ([0], right), ([2], right), ([1], [((1, 2), ())]),
                              ([1], [((0, 2), ())]), ([1], [((1, 0), ())]), ([1], [((1, 1), (0,))]), ([1], []),
                              ([1], right * 2), ([1, 0], right), ([], right), ([1], [((1,), ())]), ([-1], right),
                              ([1], [((3, -1), ())]), ([True], right), ([1], [((True, 1), ())])):
            self.assertFalse(Dealt([MEAN], [], weights, [], lots).holds(), (weights, lots))

    def test_covers(self):
        for cover in range(4):
            self.assertEqual(Dealt([COVERED], [], [1], [], [((1, 1), (cover,))]).holds(), cover == 1)
            self.assertEqual(Dealt([COVERED], [], [2], [], [((2, 2), (cover,))]).holds(), cover == 2)
        self.assertFalse(Dealt([COVERED], [], [1], [], [((1, 1), ())]).holds())
        self.assertFalse(Dealt([COVERED], [], [1], [], [((1, 1), (1, 0))]).holds())
        # Shares may be more than the need, if there is so much.
        claim = read_claim(COLUMN, "S[x] <= S[x2]^3")
        self.assertEqual([Dealt([claim], [], [1], [], [((shares,), ())]).holds() for shares in range(5)],
                         [False, True, True, True, False])

    def test_uses(self):
        # The premise S[x2] <= S[x] gives shares of x2, and needs some of x.
        premise = read_claim(COLUMN, "S[x2]^2 <= S[x]^3")
        claim = read_claim(COLUMN, "S[x]^3 <= S[]^9 S[x2]")
        paper = Dealt([claim], [premise], [1], [1], [((0, 9), ())])
        self.assertEqual([paper.small_sums(), paper.great_sums()], [[(1,)], [(0,), (2,)]])
        self.assertFalse(paper.holds())
        self.assertTrue(Dealt([claim], [premise], [2], [2], [((9, 6), ())]).small_sums() == [(1,)])
        for use in range(4):
            for share in range(12):
                lots = [((share, 1 + 2 * use), ())]
                self.assertEqual(Dealt([claim], [premise], [1], [use], lots).holds(),
                                 is_right_deal([claim], [premise], [1], [use], lots))
        for uses in ([], [1, 1], [-1], None, 1, [True], ["1"]):
            self.assertFalse(Dealt([claim], [premise], [1], uses, [((9, 3), ())]).holds())

    def test_claims_without_sums(self):
        nothing = Claim(COLUMN, Product(1), Product(1))
        self.assertTrue(Dealt([nothing], [], [1], [], []).holds())
        self.assertFalse(Dealt([nothing], [], [0], [], []).holds())
        self.assertTrue(Dealt([nothing, MORE], [], [1, 0], [], [((0,), ())]).holds())
        self.assertFalse(Dealt([nothing, MORE], [], [1, 1], [], [((1,), ())]).holds())
        high = Claim(COLUMN, Product(1), Product(1, [((2,), 1)]))
        self.assertTrue(Dealt([high], [], [4], [], []).holds())
        self.assertFalse(Dealt([high.turned()], [], [1], [], [((), ())]).holds())

    def test_lists_and_tuples(self):
        self.assertTrue(Dealt((MEAN,), (), (1,), (), (((1, 1), ()),)).holds())
        self.assertTrue(Dealt([MEAN], (), [1], (), (((1, 1), ()),)).holds())
        for lot in ([(1, 1), ()], ([1, 1], ()), ((1, 1), []), ((1, 1),), ((1, 1), (), ()), (1, 1), None):
            self.assertFalse(Dealt([MEAN], [], [1], [], [lot]).holds(), lot)

    def test_parts_of_any_kind(self):
        for value in ANY_VALUES:
            for parts in ([value, [], [((1, 1), ())]], [[value], [], [((1, 1), ())]], [[1], value, [((1, 1), ())]],
                          [[1], [value], [((1, 1), ())]], [[1], [], value], [[1], [], [value]],
                          [[1], [], [((value, 1), ())]], [[1], [], [((1, 1), value)]], [[1], [], [(value, ())]],
                          [value, value, value]):
                paper = Dealt([MEAN], [], *parts)
                self.assertEqual([paper.weights(), paper.uses(), paper.lots()], parts)
                self.assertEqual(paper.holds(), is_right_deal([MEAN], [], *parts), parts)

    def test_one_number_changed(self):
        pick = random.Random(2)
        right = wrong = 0
        while right + wrong < 3000:
            schema = random_schema(pick)
            premises = kept_premises(pick, schema, pick.randint(0, 2))
            paper = judge(*[random_claim(pick, schema, 3) for _ in range(pick.randint(1, 3))], premises=premises)
            if not paper:
                continue
            parts = [paper.weights(), paper.uses(), paper.lots()]
            for changed in self.changed(parts):
                wanted = is_right_deal(paper.claims(), premises, *changed)
                self.assertEqual(Dealt(paper.claims(), premises, *changed).holds(), wanted, changed)
                right, wrong = right + wanted, wrong + (not wanted)
        self.assertGreater(min(right, wrong), 300)

    def changed(self, parts):
        """The parts of a deal, and the same with one number one more or less, or one more or less item."""
        yield parts
        for at in range(2):
            for place, number in enumerate(parts[at]):
                for fresh in (number - 1, number + 1, 0, number + 0.0 if number else None):
                    yield [*parts[:at], [*parts[at][:place], fresh, *parts[at][place + 1:]], *parts[at + 1:]]
            yield [*parts[:at], parts[at] + [0], *parts[at + 1:]]
            yield [*parts[:at], parts[at][1:], *parts[at + 1:]]
        weights, uses, lots = parts
        yield [weights, uses, lots[1:]]
        yield [weights, uses, lots + lots[:1]]
        for at, lot in enumerate(lots):
            for side in range(2):
                for place, number in enumerate(lot[side]):
                    for fresh in (number - 1, number + 1, 0, -1):
                        numbers = lot[side][:place] + (fresh,) + lot[side][place + 1:]
                        yield [weights, uses, [*lots[:at], (lot[:side] + (numbers,) + lot[side + 1:]), *lots[at + 1:]]]
                yield [weights, uses, [*lots[:at], (lot[:side] + (lot[side] + (0,),) + lot[side + 1:]), *lots[at + 1:]]]

    def test_long_numbers(self):
        big = 10 ** 400
        self.assertTrue(Dealt([MEAN], [], [big], [], [((big, big), ())]).holds())
        self.assertFalse(Dealt([MEAN], [], [big], [], [((big, big + 1), ())]).holds())
        self.assertFalse(Dealt([MEAN], [], [big], [], [((big, big - 1), ())]).holds())
        claim = Claim(COLUMN, Product(1, [((1,), 2 * 10 ** 59)]), Product(1, [((0,), 10 ** 59), ((2,), 10 ** 59)]))
        self.assertTrue(Dealt([claim], [], [1], [], [((10 ** 59, 10 ** 59), ())]).holds())


class FailingTest(unittest.TestCase):
    def check(self, claims, premises, base, groups):
        paper = Failing(claims, premises, base, groups)
        wanted = fails_at(claims, premises, base, groups)
        self.assertEqual(paper.holds(), wanted, (claims, premises, base, groups))
        self.assertEqual(paper.table(), Table.powers(claims[0].schema.width, base, groups))
        return wanted

    def test_by_hand(self):
        paper = Failing([MORE], [], 2, [(0, (1,))])
        self.assertEqual([paper.holds(), paper.base, paper.groups()], [True, 2, [(0, (1,))]])
        self.assertEqual(paper.table(), Table(1, [(1, (2,))]))
        self.assertFalse(Failing([LESS], [], 2, [(0, (1,))]).holds())
        self.assertFalse(Failing([MORE, LESS], [], 2, [(0, (1,))]).holds())
        self.assertFalse(Failing([MORE], [], 2, [(5, (0,))]).holds())
        self.assertTrue(Failing([MORE], [LESS], 2, [(0, (1,))]).holds())
        self.assertFalse(Failing([MORE], [MORE], 2, [(0, (1,))]).holds())
        # A premise may hold with equality.
        self.assertTrue(Failing([MORE], [MEAN.turned()], 2, [(0, (1,))]).holds())
        self.assertFalse(Failing([MORE], [MEAN.turned()], 2, [(0, (1,)), (0, (0,))]).holds())

    def test_directions_must_fit(self):
        claim = read_claim(BOUND, "S[x] <= S[]")
        for direction, wanted in (((1, 2), True), ((1, 1), False), ((1, 3), True), ((0, 0), False), ((2, 3), False)):
            self.assertEqual(Failing([claim], [], 2, [(0, direction)]).holds(), wanted)
        self.assertFalse(Failing([claim], [], 2, [(0, (1, 2)), (0, (1, 1))]).holds())
        self.assertEqual(Failing([claim], [], 2, [(0, (1, 1))]).table(), Table(2, [(1, (2, 2))]))

    def test_by_plain_arithmetic(self):
        pick = random.Random(3)
        seen = []
        for _ in range(600):
            schema = random_schema(pick)
            claims = [random_claim(pick, schema, 3) for _ in range(pick.randint(1, 2))]
            premises = [random_claim(pick, schema, 2) for _ in range(pick.choice([0, 0, 1, 2]))]
            groups = random_groups_of_powers(pick, schema, pick.randint(1, 4))
            seen.append(self.check(claims, premises, pick.choice([2, 3, 4, 16]), groups))
        self.assertGreater(min(seen.count(True), seen.count(False)), 60)

    def test_judged_and_changed(self):
        pick = random.Random(4)
        right = wrong = 0
        while min(right, wrong) < 100:
            schema = random_schema(pick)
            premises = kept_premises(pick, schema, pick.randint(0, 2))
            paper = judge(*[random_claim(pick, schema, 3) for _ in range(pick.randint(1, 2))], premises=premises)
            if paper:
                continue
            groups = paper.groups()
            for at, (count, direction) in enumerate(groups):
                changes = [(count + 1, direction), (max(0, count - 1), direction)]
                for place, part in enumerate(direction):
                    changes += [(count, direction[:place] + (fresh,) + direction[place + 1:]) for fresh in (part + 1, 0)]
                for change in changes:
                    found = self.check(paper.claims(), premises, paper.base, [*groups[:at], change, *groups[at + 1:]])
                    right, wrong = right + found, wrong + (not found)
            self.check(paper.claims(), premises, paper.base + 1, groups)
            if paper.base > 2:
                self.assertFalse(self.check(paper.claims(), premises, paper.base // 2, groups))

    def test_groups_of_any_kind(self):
        for value in ANY_VALUES:
            for base, groups in ((2, value), (2, [value]), (2, [(0, (1,)), value]), (2, [(value, (1,))]),
                                 (2, [(0, value)]), (2, [(0, (value,))]), (value, [(0, (1,))]), (value, value)):
                paper = Failing([MORE], [], base, groups)
                self.assertEqual([paper.base, paper.groups()], [base, groups])
                if self.is_table(base, groups) and value == 10 ** 60 - 1 and base == 2:
                    # The table is far too long, but the claim fails in it.
                    self.assertTrue(paper.holds())
                elif self.is_table(base, groups):
                    self.check([MORE], [], base, groups)
                else:
                    self.assertEqual([paper.table(), paper.holds()], [None, False], (base, groups))

    def is_table(self, base, groups):
        """Whether base and groups of any kind are those of a table with one column."""
        return (type(base) is int and base > 1 and type(groups) in (list, tuple) and 1 <= len(groups) <= 100
                and all(type(group) is tuple and len(group) == 2 and type(group[0]) is int and group[0] >= 0
                        and type(group[1]) is tuple and len(group[1]) == 1 and type(group[1][0]) is int
                        and group[1][0] >= 0 for group in groups))

    def test_base_and_number_of_groups(self):
        for base in (1, 0, -2, True, None, "2", (2,)):
            self.assertIsNone(Failing([MORE], [], base, [(0, (1,))]).table())
            self.assertFalse(Failing([MORE], [], base, [(0, (1,))]).holds())
        for groups in ([(0, (1,))] * 100, [(0, (at,)) for at in range(1, 101)]):
            self.assertTrue(self.check([MORE], [], 2, groups))
            self.assertTrue(self.check([MORE], [], 2, tuple(groups)))
            self.assertIsNone(Failing([MORE], [], 2, groups + [(0, (1,))]).table())
            self.assertFalse(Failing([MORE], [], 2, groups + [(0, (1,))]).holds())
        self.assertIsNone(Failing([MORE], [], 2, []).table())
        self.assertIsNone(Failing([MORE], [], 2, [(0, (1, 1))]).table())
        self.assertIsNone(Failing([MORE], [], 2, [[0, (1,)]]).table())
        self.assertIsNone(Failing([MORE], [], 2, [(0, [1])]).table())

    def test_tables_that_are_too_long_to_be_written_down(self):
        big = 10 ** 59
        for claim, groups, wanted in (
                (MORE, [(0, (big,))], True), (LESS, [(0, (big,))], False), (MEAN, [(big, (0,)), (0, (big,))], False),
                (MORE, [(big, (0,)), (0, (1,))], True), (LESS, [(big, (0,)), (0, (1,))], False),
                (MEAN.turned(), [(big, (1,)), (big, (0,))], True), (MEAN.turned(), [(big, (7,))], False)):
            self.assertEqual(Failing([claim], [], 2, groups).holds(), wanted)
            self.assertEqual(Failing([claim], [], 10 ** 60 - 1, groups).holds(), wanted)


class CopiesTest(unittest.TestCase):
    def test_what_was_passed_may_change(self):
        claims, premises, weights, uses, lots = [MEAN], [LESS], [1], [[1], ([2],)], [((1, 1), [[3]])]
        deal = Dealt(claims, premises, weights, uses, lots)
        base, groups = [2, [3]], [(0, (1,)), [4, ([5],)]]
        table = Failing(claims, premises, base, groups)
        question = Verdict(claims, premises)
        before = copy.deepcopy([weights, uses, lots, base, groups])
        for given in (claims, premises, weights, lots, groups[1][1][0], uses[0], uses[1][0], base[1], base, groups):
            given.append(None)
            given[0] = None
        for paper in (deal, table, question):
            self.assertEqual([paper.claims(), paper.premises()], [[MEAN], [LESS]])
        self.assertEqual([deal.weights(), deal.uses(), deal.lots(), table.base, table.groups()], before)

    def test_what_was_returned_may_change(self):
        deal = Dealt([MEAN], [LESS], [1], [[1], ([2],)], [((1, 1), [[3]])])
        table = Failing([MEAN], [LESS], 2, [(0, (1,)), [4, ([5],)]])
        question = Verdict([MEAN], [LESS])
        for call in (deal.claims, deal.premises, deal.weights, deal.uses, deal.lots, deal.small_sums, deal.great_sums,
                     table.claims, table.premises, table.groups, table.small_sums, table.great_sums,
                     question.claims, question.premises, question.small_sums, question.great_sums):
            before = copy.deepcopy(call())
            call().append(None)
            call().clear()
            self.assertEqual(call(), before)
            self.assertIs(type(call()), list)
        deal.uses()[1][0].append(9)
        deal.lots()[0][1][0][0] = 9
        table.groups()[1][1][0].append(9)
        self.assertEqual([deal.uses(), deal.lots()], [[[1], ([2],)], [((1, 1), [[3]])]])
        self.assertEqual(table.groups(), [(0, (1,)), [4, ([5],)]])

    def test_arguments_stay_and_may_be_named(self):
        lots = [((1, 1), ())]
        deal = Dealt(lots=lots, uses=[], weights=[1], premises=[], claims=[MEAN])
        table = Failing(groups=[(0, (1,))], base=2, premises=(), claims=(MORE,))
        self.assertTrue(deal.holds() and table.holds())
        self.assertEqual(lots, [((1, 1), ())])

    def test_tight_papers_are_papers(self):
        with self.assertRaises(Tight) as found:
            judge(LESS, premises=[MORE])
        self.assertEqual([found.exception.paper.claims(), power_in(found.exception.paper.claims()[0].low, (1,))],
                         [[LESS], 1])


if __name__ == "__main__":
    unittest.main()
