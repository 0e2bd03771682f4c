"""Point [27] of the document, and dealtpowers/pages.py."""

import random
import unittest

from dealtpowers.books import Book
from dealtpowers.pages import columns_of, read_page, write_page
from dealtpowers.schemas import Schema
from questions import random_claim
from samples import ANY_VALUES, raised_by, random_facts

LETTERS = "abcdefghijklmnopqrstuvwxyz"
PAGE = "columns xy\nfact low: x2 <= y\nclaim main: S[x]^2 <= S[] S[y]\npremise p: 1 <= S[]\n"


def random_book(pick, many):
    """A book with up to so many names."""
    columns = "".join(pick.sample(LETTERS, pick.randint(1, 3)))
    schema = Schema(columns)
    book = Book(columns, limit=20)
    kinds = ["fact"] * pick.randint(0, 4) + ["premise"] * pick.randint(0, 4)
    kinds = kinds[:many] + ["claim"] * (many - len(kinds[:many]))
    pick.shuffle(kinds)
    for kind in kinds:
        name = "".join(pick.choice(LETTERS) for _ in range(pick.randint(1, 6)))
        if name in book:
            continue
        if kind == "fact":
            text = schema.fact_text(random_facts(pick, schema.width, 1)[0])
        else:
            text = random_claim(pick, schema, 4, 6, 10 ** 17).text()
        book.apply((kind, name, text))
    return book


def plain_page(book):
    """The page of a book by the words of the document."""
    lines = ["columns " + book.columns] + [kind + " " + name + ": " + text for kind, name, text in book.walk()]
    return "".join(line + "\n" for line in lines)


def plain_error(page):
    """The index of the first wrong line of a page, or None, by the words of the document."""
    lines = page.split("\n")
    ended = lines.pop() == ""
    if not ended:
        lines = page.split("\n")
    names, counts = [], {"fact": 0, "premise": 0, "claim": 0}
    for at, line in enumerate(lines):
        if at == len(lines) - 1 and not ended:
            return at
        if at == 0:
            columns = line[8:]
            if line[:8] != "columns " or not 1 <= len(columns) <= 3 or len(set(columns)) < len(columns) \
                    or not set(columns) <= set(LETTERS):
                return 0
            continue
        head, sign, text = line.partition(": ")
        kind, _, name = head.partition(" ")
        if not sign or kind not in counts or name in names or not 1 <= len(name) <= 6 or not set(name) <= set(LETTERS):
            return at
        names.append(name)
        counts[kind] += 1
        if len(names) > 20 or (kind != "claim" and counts[kind] > 4):
            return at
        if raised_by(Book(columns).apply, ("fact" if kind == "fact" else "claim", "a", text)):
            return at
    return None


class PagesTest(unittest.TestCase):
    def check(self, page):
        """A page is read, or refused for the right line."""
        line = plain_error(page) if page else 0
        if line is not None:
            self.assertEqual(raised_by(read_page, page), ("InvalidPage", line), page)
            return line
        book = read_page(page)
        self.assertEqual([write_page(book), book.limit, book.history(), book.kept(), book.computed, book.busy],
                         [page, 20, (0, 0), [], 0, False])
        return None

    def test_both_ways(self):
        pick = random.Random(1)
        for many in range(21):
            for _ in range(4):
                book = random_book(pick, many)
                page = write_page(book)
                self.assertEqual(page, plain_page(book))
                self.assertIsNone(self.check(page))
                read = read_page(page)
                self.assertEqual([read, list(read.walk()), read.columns], [book, list(book.walk()), book.columns])

    def test_by_hand(self):
        book = Book("xy")
        self.assertEqual(write_page(book), "columns xy\n")
        book.apply(("fact", "low", "x2 <= y"), ("claim", "main", "S[x]^2 <= S[] S[y]"))
        book.apply(("premise", "p", "1 <= S[]"))
        self.assertEqual(write_page(book), PAGE)
        self.assertEqual(read_page(text=PAGE), book)
        self.assertEqual(read_page("columns q\n"), Book("q"))
        self.assertEqual(book.history(), (2, 0))

    def test_changed_lines(self):
        pick = random.Random(2)
        seen = []
        for _ in range(150):
            page = write_page(random_book(pick, pick.randint(1, 8)))
            lines = page.split("\n")[:-1]
            at, other = (pick.randrange(len(lines)) for _ in range(2))
            less, double, put = lines[:at] + lines[at + 1:], lines[:at + 1] + lines[at:], lines[:at] + [""] + lines[at:]
            turned = list(lines)
            turned[at], turned[other] = lines[other], lines[at]
            for some in (less, double, put, turned, lines[:at] + ["claim zzz: 1 <= 1"] + lines[at:]):
                seen.append(self.check("".join(line + "\n" for line in some)))
        self.assertTrue({None, 0, 1, 2, 3} <= set(seen))

    def test_changed_signs(self):
        pick = random.Random(3)
        seen = []
        for _ in range(1500):
            page = write_page(random_book(pick, pick.randint(0, 5)))
            at = pick.randrange(len(page))
            sign = pick.choice("abxyz [](:^<=>S0123456789\n~")
            for some in (page[:at] + page[at + 1:], page[:at] + sign + page[at:], page[:at] + sign + page[at + 1:]):
                seen.append(self.check(some))
        self.assertTrue({None, 0, 1, 2, 3, 4} <= set(seen))

    def test_without_line_feeds(self):
        for page, line in (("", 0), ("columns xy", 0), ("\n", 0), ("columns xy\n\n", 1), (PAGE[:-1], 3), (PAGE + "\n", 4),
                           (PAGE + "x", 4), (PAGE[:-1] + " ", 3), ("columns xy\nfact", 1), ("columns xy\n ", 1),
                           ("columns xx\nfact", 0), ("columns xy\nfact\nfact", 1), ("\n\n", 0), ("columns \n", 0),
                           (" columns xy\n", 0), ("columns xy \n", 0), ("columns  xy\n", 0), ("Columns xy\n", 0)):
            self.assertEqual(raised_by(read_page, page), ("InvalidPage", line), page)
            self.check(page)

    def test_too_many(self):
        facts = "columns xy\n" + "".join(f"fact {letter}: x <= y\n" for letter in "abcd")
        premises = "".join(f"premise p{letter}: 1 <= 1\n" for letter in "abcd")
        self.assertIsNone(self.check(facts + premises))
        self.assertEqual(self.check(facts + "claim e: 1 <= 1\nfact f: x <= y\nclaim g: no\n"), 6)
        self.assertEqual(self.check(facts + premises + "premise q: 1 <= 1\n"), 9)
        claims = "columns xy\n" + "".join(f"claim {letter}: 1 <= 1\n" for letter in "abcdefghijklmnopqrst")
        self.assertIsNone(self.check(claims))
        self.assertEqual(self.check(claims + "claim u: 1 <= 1\n"), 21)
        self.assertEqual(self.check(claims + "claim u: 1 <= 1"), 21)
        self.assertEqual(self.check(claims.replace("claim b", "claim a") + "claim u: 1 <= 1\n"), 2)

    def test_lines_of_another_form(self):
        for line in ("fact a:x <= y", "fact a : x <= y", "fact  a: x <= y", "facta: x <= y", "fact a x <= y", "fact a: ",
                     "fact a:  x <= y", "fact a: x <= y ", "fact A: x <= y", "fact : x <= y", "fact abcdefg: x <= y",
                     "rule a: x <= y", "drop a: b", "rename a: b", "claim a: x <= y", "fact a: S[x] <= 1", "a: x <= y",
                     "premise a: S[z] <= 1", "claim a: S[x]  <= 1", "fact a: x <= y: x <= y", "columns xy", " "):
            self.assertEqual(self.check(f"columns xy\nclaim m: 1 <= 1\n{line}\nclaim m: 1 <= 1\n"), 2, line)

    def test_any_value(self):
        for value in ANY_VALUES + ["S[x] <= S[y]", "columns", "xy", "%"]:
            self.assertEqual(raised_by(read_page, value), ("InvalidPage", 0), value)

    def test_a_read_book_is_a_book(self):
        book = read_page(PAGE)
        self.assertEqual([book.verdict("main").told(), book.computed, book.kept()], ["dealt", 1, ["main"]])
        self.assertEqual(raised_by(book.undo), ("NothingLeft",))
        book.apply(("drop", "low"))
        book.undo()
        self.assertEqual([write_page(book), read_page(PAGE).kept()], [PAGE, []])


class ColumnsTest(unittest.TestCase):
    def test_lines(self):
        self.assertEqual(columns_of(read_page(PAGE)), ["low    fact       7", "main   claim     18", "p      premise    8"])
        self.assertEqual(columns_of(book=Book("x")), [])
        pick = random.Random(4)
        for _ in range(20):
            book = random_book(pick, 12)
            found = columns_of(book)
            self.assertEqual(found, [name.ljust(6) + " " + kind.ljust(7) + " " + str(len(text)).rjust(4)
                                     for kind, name, text in book.walk()])
            self.assertTrue(all(len(line) == 19 for line in found))
            found.clear()
            self.assertEqual(len(columns_of(book)), len(book))


if __name__ == "__main__":
    unittest.main()
