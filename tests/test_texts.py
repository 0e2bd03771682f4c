"""Texts of facts, products and claims, both ways, and texts that are wrong by one sign."""

import random
import re
import unittest

from dealtpowers.claims import Claim, read_claim
from dealtpowers.errors import InvalidColumns, InvalidText
from dealtpowers.products import Product, read_product
from dealtpowers.schemas import Schema
from samples import ANY_VALUES, PLAIN, box, raised_by, random_exponent, random_factors, random_facts

SIGNS = list("SsxyzabXY[](){}^*<>= .,-+_/0123456789\n\t\\~!") + ["<=", "  ", " <= ", "S[", "S[]", "^1", "\u00b2", "\uff11"]


def changed(text):
    """All texts that differ from a text by one sign that is left out, put in, exchanged or doubled."""
    for at in range(len(text) + 1):
        for sign in SIGNS:
            yield text[:at] + sign + text[at:]
            yield text[:at] + sign + text[at + 1:]
        yield text[:at] + text[at + 1:]
        yield text[:at] + text[at:at + 1] * 2 + text[at + 1:]
        yield text[:at] + text[at + 1:at + 2] + text[at:at + 1] + text[at + 2:]


def exponent_of(columns, text):
    """The exponent of a monomial's text inside of a sum, by the words of the document, or None."""
    found = [re.fullmatch("([a-z])([2-6]?)", word) for word in text.split(" ")] if text else []
    if None in found:
        return None
    letters = [match[1] for match in found]
    if sorted(set(letters), key=lambda letter: columns.find(letter)) != letters or not set(letters) <= set(columns):
        return None
    told = {match[1]: int(match[2] or 1) for match in found}
    return tuple(told.get(letter, 0) for letter in columns)


def is_fact_text(columns, text):
    sides = text.split(" <= ")
    return len(sides) == 2 and all(side and exponent_of(columns, "" if side == "1" else side) for side in sides)


def is_product_text(columns, text):
    sums = re.findall(r"S\[([^\]]*)\]((?:\^[0-9]+)?)", text)
    if text != (" ".join(f"S[{inside}]{power}" for inside, power in sums) or "1") or len(sums) > 12:
        return False
    exponents = [exponent_of(columns, inside) for inside, _ in sums]
    return (None not in exponents and sorted(set(exponents)) == exponents
            and all(re.fullmatch(r"|\^([2-9]|[1-9][0-9]{1,17})", power) for _, power in sums))


def is_claim_text(columns, text):
    sides = text.split(" <= ")
    return len(sides) == 2 and all(is_product_text(columns, side) for side in sides)


class TextCase(unittest.TestCase):
    def assert_refused(self, call, text):
        with self.assertRaises(InvalidText) as caught:
            call(text)
        self.assertEqual(vars(caught.exception), {"code": "InvalidText"})

    def check_changed(self, read, write, is_text, text):
        """Each changed text is read exactly if it is the text of a value."""
        seen = {True: 0, False: 0}
        for other in set(changed(text)):
            right = is_text(other)
            seen[right] += 1
            if right:
                self.assertEqual(write(read(other)), other)
            else:
                self.assert_refused(read, other)
        self.assertGreater(seen[False], 100)
        self.assertGreater(seen[True], 1)

    def check_refused(self, read, values):
        for value in values:
            self.assert_refused(read, value)


class FactTextTest(TextCase):
    def test_by_hand(self):
        for columns, fact, text in (
                ("xy", ((2, 0), (0, 1)), "x2 <= y"), ("xy", ((0, 0), (0, 0)), "1 <= 1"),
                ("xy", ((0, 0), (1, 1)), "1 <= x y"), ("xy", ((6, 2), (0, 0)), "x6 y2 <= 1"),
                ("yx", ((2, 0), (0, 1)), "y2 <= x"), ("bzs", ((1, 3, 6), (0, 1, 0)), "b z3 s6 <= z"),
                ("x", ((5,), (4,)), "x5 <= x4")):
            schema = Schema(columns)
            self.assertEqual(schema.fact_text(fact), text)
            self.assertEqual(schema.fact_text(fact=fact), text)
            self.assertEqual(schema.read_fact(text), fact)
            self.assertEqual(schema.read_fact(text=text), fact)
            self.assertIs(type(schema.read_fact(text)), tuple)

    def test_all_of_two_columns(self):
        schema = Schema("ba", [((1, 0), (0, 1))])
        seen = set()
        for low in box(2, 0, 6):
            text = schema.fact_text((low, (3, 1)))
            self.assertEqual(schema.read_fact(text), (low, (3, 1)))
            turned = schema.fact_text(((3, 1), low))
            self.assertEqual(schema.read_fact(turned), ((3, 1), low))
            seen |= {text, turned}
        self.assertEqual(len(seen), 97)

    def test_both_ways(self):
        pick = random.Random(31)
        for _ in range(300):
            columns = pick.choice(["q", "xy", "zax"])
            fact = random_facts(pick, len(columns), 1)[0]
            schema = Schema(columns)
            self.assertEqual(schema.read_fact(schema.fact_text(fact)), fact)

    def test_wrong_by_hand(self):
        self.check_refused(Schema("xy").read_fact, [
            "", " ", "x", "x <= ", " <= x", "<=", " <= ", "x<=y", "x <=y", "x<= y", "x < y", "x >= y", "x == y",
            "x  <= y", "x <=  y", " x <= y", "x <= y ", "x <= y\n", "x <= y <= y", "x1 <= y", "x0 <= y", "x7 <= y",
            "x02 <= y", "x^2 <= y", "xy <= y", "y x <= y", "x x <= y", "x  y <= y", "z <= y", "X <= y", "2x <= y",
            "0 <= y", "2 <= y", "11 <= y", "1 x <= y", "x 1 <= y", "x <= S[y]", "S[x] <= S[y]", "x10 <= y", "x2y <= y",
            "x2 y2 <= x2 x2", "1 <=", "x \n<= y", "y2 <= 01", "x12 <= y"])

    def test_wrong_by_one_sign(self):
        for columns, text in (("xy", "x2 <= y"), ("xy", "1 <= x y3"), ("x", "x6 <= 1"), ("xyz", "x y6 <= y z2")):
            schema = Schema(columns)
            self.check_changed(schema.read_fact, schema.fact_text, lambda text: is_fact_text(columns, text), text)

    def test_any_values(self):
        self.check_refused(Schema("xy").read_fact, [value for value in ANY_VALUES if value != "x <= x2"])
        self.assertEqual(Schema("x").read_fact("x <= x2"), ((1,), (2,)))

    def test_long_texts(self):
        self.check_refused(Schema("xyz").read_fact, ["x " * 1000, " <= " * 500, "x" * 2000, "1" * 2000, " " * 2000])


class ProductTextTest(TextCase):
    def test_by_hand(self):
        for columns, factors, text in (
                ("xy", [], "1"), ("x", [((0,), 1)], "S[]"), ("x", [((0,), 2)], "S[]^2"),
                ("xy", [((0, 2), 1), ((1, 1), 2)], "S[y2] S[x y]^2"), ("yx", [((0, 2), 1), ((1, 1), 2)], "S[x2] S[y x]^2"),
                ("x", [((6,), 10 ** 18 - 1)], "S[x6]^999999999999999999"),
                ("sab", [((0, 0, 1), 10), ((1, 0, 0), 1), ((1, 6, 2), 1)], "S[b]^10 S[s] S[s a6 b2]")):
            product = Product(len(columns), factors)
            self.assertEqual(product.text(columns), text)
            self.assertEqual(product.text(columns=columns), text)
            for found in (read_product(columns, text), read_product(text=text, columns=columns)):
                self.assertEqual(found, product)
                self.assertIs(type(found), Product)

    def test_twelve_sums(self):
        twelve = Product(2, [((at // 4, at), 1 + at % 2) for at in range(7)]
                         + [((6, at), 10 ** 17) for at in range(5)])
        self.assertEqual(len(twelve), 12)
        text = twelve.text("xy")
        self.assertEqual(read_product("xy", text), twelve)
        self.assert_refused(lambda text: read_product("xy", text), text + " S[x6 y6]")
        self.assertEqual(read_product("xy", text[:text.rindex("S[")] + "S[x6 y6]").factors()[-1], ((6, 6), 1))

    def test_both_ways(self):
        pick = random.Random(32)
        for _ in range(400):
            columns = pick.choice(["q", "xy", "zax"])
            product = Product(len(columns), random_factors(pick, len(columns), pick.randint(0, 12)))
            product = product.to_the(pick.choice([1, 1, 3, 10 ** 16]))
            self.assertEqual(read_product(columns, product.text(columns)), product)

    def test_powers_of_18_and_19_digits(self):
        for number in (2, 9, 10, 99, 10 ** 17, 10 ** 17 + 7, 10 ** 18 - 1):
            self.assertEqual(read_product("x", f"S[x]^{number}").factors(), [((1,), number)])
        for number in (10 ** 18, 10 ** 18 + 1, 10 ** 19, 10 ** 60 - 1, 10 ** 1000):
            self.assert_refused(lambda text: read_product("x", text), f"S[x]^{number}")
            self.assertEqual(Product(1, [((1,), number)]).text("x"), f"S[x]^{number}")

    def test_wrong_by_hand(self):
        self.check_refused(lambda text: read_product("xy", text), [
            "", " ", "0", "2", "11", "1 ", " 1", "1 1", "1 S[x]", "S[x] 1", "S[1]", "S", "S[", "S]", "[]", "S[x", "x",
            "S[x]S[x2]", "S[x]  S[x2]", " S[x]", "S[x] ", "S[x]\n", "S[x2] S[x]", "S[x] S[y]", "S[x] S[x]",
            "S[x]^2 S[x]", "S[x]^1", "S[x]^0", "S[x]^", "S[x]^02", "S[x]^-2", "S[x]^+2", "S[x]^2^2", "S[x]^ 2",
            "S[x] ^2", "S[x]2", "S[x]^x", "S[x]^1_0", "S[x]^2.0", "S[x]*S[y]", "S[x7]", "S[x1]", "S[x0]", "S[x02]",
            "S[x ]", "S[ x]", "S[x  y]", "S[y x]", "S[x x]", "S[xy]", "S[z]", "S[X]", "s[x]", "S[]]", "S[[]", "S[S[x]]",
            "S[x^2]", "S[x,y]", "S[x]^\uff12", "S[x]^\u00b2", "S[x\uff12]", "S[x] <= S[x2]", "S[y]^2 S[y2] S[x]^3 S[x y7]",
            "S[x10]", "S[x]^000000000000000000", "S[x]^000000000000000002", "^2", "S[x]^2 ", "1^2", "S[] S[]"])

    def test_wrong_by_one_sign(self):
        for columns, text in (("x", "1"), ("x", "S[]"), ("xy", "S[y2] S[x y]^2"), ("xyz", "S[]^10 S[y z6] S[x]"),
                              ("x", "S[x2]^999999999999999999"), ("y", "S[y]^2 S[y2]^3")):
            self.check_changed(lambda text: read_product(columns, text), lambda found: found.text(columns),
                               lambda text: is_product_text(columns, text), text)

    def test_any_values(self):
        self.check_refused(lambda value: read_product("xy", value),
                           [value for value in ANY_VALUES if value not in ("1", "S[x]")])

    def test_long_texts(self):
        self.check_refused(lambda text: read_product("xyz", text), [
            "S[x] " * 400, "S[" * 1000, "S[]" * 600, "]" * 2000, "1" * 2000, "S[x]^" + "9" * 1900, "S[" + "x " * 900 + "]"])

    def test_columns(self):
        for wrong in [value for value in ANY_VALUES if value != "x"] + ["xx", "xyx", "abcd", "X", "x y"]:
            for text in ("S[x]", "", None, "1"):
                with self.assertRaises(InvalidColumns) as caught:
                    read_product(wrong, text)
                self.assertEqual(caught.exception.given, wrong)
        self.assertEqual(raised_by(read_product, "xyz", "S[w]"), ("InvalidText",))


class ClaimTextTest(TextCase):
    def test_by_hand(self):
        for columns, low, high, text in (
                ("xy", Product.of((1, 1), (1, 1), width=2), Product.of((0, 2), (2, 0), width=2),
                 "S[x y]^2 <= S[y2] S[x2]"),
                ("x", Product(1), Product(1), "1 <= 1"), ("x", Product(1), Product.of((0,)), "1 <= S[]"),
                ("x", Product.of((1,)), Product(1), "S[x] <= 1")):
            schema = Schema(columns)
            claim = Claim(schema, low, high)
            self.assertEqual([claim.text(), repr(claim)], [text, f"Claim({text})"])
            for found in (read_claim(schema, text), read_claim(text=text, schema=schema)):
                self.assertIs(type(found), Claim)
                self.assertEqual([found, found.schema, found.low, found.high], [claim, schema, low, high])

    def test_both_ways(self):
        pick = random.Random(33)
        for _ in range(200):
            columns = pick.choice(["q", "xy", "zax"])
            width = len(columns)
            schema = Schema(columns, random_facts(pick, width, pick.randint(0, 2)))
            claim = Claim(schema, *[Product(width, random_factors(pick, width, pick.randint(0, 12))) for _ in "ab"])
            self.assertEqual(read_claim(schema, claim.text()), claim)

    def test_thirteen_sums(self):
        schema = Schema("xy")
        long = " ".join(f"S[x{at} y2]" for at in range(2, 7)) + " " + " ".join(f"S[x{at} y3]" for at in range(2, 7))
        sums = sorted(random_exponent(random.Random(seed), 2) for seed in range(60))
        thirteen = sorted(set(sums))[:13]
        text = " ".join(Product.of(exponent, width=2).text("xy") for exponent in thirteen)
        twelve = Product.of(*thirteen[:12], width=2).text("xy")
        self.assertEqual(read_claim(schema, f"{twelve} <= {twelve}").text(), f"{twelve} <= {twelve}")
        for wrong in (f"{text} <= 1", f"1 <= {text}", f"{text} <= {text}", f"{twelve} <= {text}", f"{long} <= 1"):
            self.assert_refused(lambda text: read_claim(schema, text), wrong)

    def test_wrong_by_hand(self):
        self.check_refused(lambda text: read_claim(Schema("xy"), text), [
            "", "1", "S[x]", "<=", " <= ", "1 <= ", " <= 1", "1 <= 1 <= 1", "1<=1", "1 < 1", "1 >= 1", "1 <=  1",
            " 1 <= 1", "1 <= 1 ", "1 <= 1\n", "x <= y", "S[x] <= y", "S[x]<=S[y]", "S[y] S[x] <= S[x] S[y]",
            "S[x] <= S[z]", "S[z] <= S[x]", "S[x <= S[x]", "S[x <= y]", "S[x]^1 <= S[x]", "S[x] <= S[x]^1",
            "S[x]^1000000000000000000 <= 1", "0 <= 1"])

    def test_wrong_by_one_sign(self):
        for columns, text in (("xy", "S[x y]^2 <= S[y2] S[x2]"), ("x", "1 <= S[]"), ("x", "S[x] <= 1")):
            schema = Schema(columns)
            self.check_changed(lambda text: read_claim(schema, text), Claim.text,
                               lambda text: is_claim_text(columns, text), text)

    def test_any_values(self):
        self.check_refused(lambda value: read_claim(Schema("xy"), value), ANY_VALUES)
        self.check_refused(lambda value: read_claim(Schema("x"), value), PLAIN)


if __name__ == "__main__":
    unittest.main()
