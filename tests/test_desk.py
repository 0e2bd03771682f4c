"""Point [28] of the document, and dealtpowers/desk.py."""

import random
import unittest

from dealtpowers.books import Book
from dealtpowers.desk import Desk
from dealtpowers.errors import Tight
from dealtpowers.judging import greatest_power
from dealtpowers.pages import read_page, write_page
from samples import raised_by

FACTS = ["x <= y", "x2 <= y", "1 <= x"]
CLAIMS = ["S[x] <= S[y]", "S[x]^2 <= S[] S[y]", "S[x3] <= S[x2]^2", "1 <= S[]", "S[x2] <= S[x]"]


class DeskTest(unittest.TestCase):
    def check(self, *pairs):
        desk = Desk()
        for at, (line, answer) in enumerate(pairs):
            self.assertEqual(desk(line) if at % 2 else desk.say(line), answer, line)
        self.assertEqual(desk.log(), list(pairs))
        self.assertEqual([len(desk), repr(desk), bool(desk)], [len(pairs), f"Desk({len(pairs)} lines)", True])
        return desk

    def test_lines(self):
        self.check(("names", "none"), ("fact low x2 <= y", "done"), ("premise p S[x] <= S[y]", "done"),
                   ("claim main S[x]^2 <= S[] S[y]", "done"), ("names", "low p main"), ("show low", "fact x2 <= y"),
                   ("show p", "premise S[x] <= S[y]"), ("show main", "claim S[x]^2 <= S[] S[y]"), ("judge main", "dealt"),
                   ("power main", "1/1"), ("drop low", "done"), ("judge main", "failing"), ("undo", "done"),
                   ("judge main", "dealt"), ("redo", "done"), ("rename p q", "done"), ("names", "q main"),
                   ("claim main 1 <= S[x]", "done"), ("show main", "claim 1 <= S[x]"), ("power main", "any"))

    def test_errors(self):
        self.check(("undo", "error NothingLeft"), ("redo", "error NothingLeft"), ("drop a", "error UnknownName"),
                   ("show a", "error UnknownName"), ("judge a", "error UnknownName"), ("power a", "error UnknownName"),
                   ("rename a b", "error UnknownName"), ("fact A x <= y", "error InvalidName"),
                   ("claim abcdefg 1 <= 1", "error InvalidName"), ("fact a x<=y", "error InvalidText"),
                   ("fact a S[x] <= S[y]", "error InvalidText"), ("claim a x <= y", "error InvalidText"),
                   ("premise a S[z] <= 1", "error InvalidText"), ("fact a x <= y", "done"),
                   ("claim a 1 <= 1", "error WrongKind"), ("rename a a", "error DuplicateName"),
                   ("rename a B", "error InvalidName"), ("judge a", "error UnknownName"), ("power a", "error UnknownName"),
                   ("premise p 1 <= S[x]", "done"), ("judge p", "error UnknownName"), ("power p", "error UnknownName"))

    def test_full_books(self):
        desk = Desk(book=Book("xy", limit=6))
        for letter in "abcd":
            self.assertEqual(desk(f"fact {letter} x <= y"), "done")
        self.assertEqual([desk("fact e x <= y"), desk("premise e x"), desk("claim e 1 <= 1"), desk("claim f 1 <= 1")],
                         ["error TooMany", "error InvalidText", "done", "done"])
        self.assertEqual([desk("claim g 1 <= 1"), desk("claim f S[] <= 1"), len(desk.book)], ["error Full", "done", 6])

    def test_tight_premises(self):
        desk = self.check(("premise p S[x2] <= S[x]", "done"), ("claim c S[x] <= S[]", "done"), ("judge c", "error Tight"),
                          ("power c", "0/1"), ("drop p", "done"), ("judge c", "failing"))
        self.assertEqual([desk.book.computed, desk.book.kept()], [1, ["c"]])

    def test_powers(self):
        self.check(("claim a S[x3] <= S[x2]^2", "done"), ("power a", "4/3"), ("claim a S[x] <= S[]", "done"), ("power a", "0/1"),
                   ("claim a S[x]^2 <= S[] S[y]", "done"), ("power a", "0/1"), ("fact f x2 <= y", "done"), ("power a", "1/1"),
                   ("premise p S[x3] <= S[x]^2", "done"), ("claim b S[x3] <= S[x]^2", "done"), ("power b", "2/3"),
                   ("judge b", "dealt"), ("claim a 1 <= 1", "done"), ("power a", "any"), ("claim a S[] <= S[x]^7", "done"),
                   ("power a", "7/1"))

    def test_lines_that_are_unknown(self):
        lines = ["", " ", "  ", "name", "Names", "names ", " names", "names a", "undo ", "undo now", "redo redo", "fact",
                 "fact ", "fact a", "fact a ", "fact  a x <= y", " fact a x <= y", "fact  x <= y", "claim", "claim a",
                 "claim a ", "claim  1 <= 1", "premise", "premise p", "premise p ", "drop", "drop ", "drop a b", "drop  a",
                 "drop a ", "rename", "rename a", "rename a ", "rename a b c", "rename  a b", "rename a  b", "rename a b ",
                 "show", "show ", "show a b", "show  a", "judge", "judge ", "judge a ", "power", "power  a", "power a b",
                 "twin a", "limit 3", "walk", "undo\n", "names\n", "\n", "fact\na x <= y", "drop\na", "none", "done",
                 "unknown", "error", "kept", "columns xy"]
        desk = self.check(*[(line, "unknown") for line in lines])
        self.assertEqual([len(desk.book), desk.book.history()], [0, (0, 0)])

    def test_line_feeds_and_spaces(self):
        self.check(("claim a 1 <= 1", "done"), ("show a\n", "error UnknownName"), ("show \na", "error UnknownName"),
                   ("show \n", "error UnknownName"), ("fact a\nb x <= y", "error InvalidName"),
                   ("fact b x <= y\n", "error InvalidText"), ("fact b \n", "error InvalidText"),
                   ("fact b  x <= y", "error InvalidText"), ("fact b x <= y ", "error InvalidText"),
                   ("fact b  ", "error InvalidText"), ("rename a b\n", "error InvalidName"), ("names", "a"))

    def test_lines_with_errors_change_nothing(self):
        desk = Desk()
        desk("claim a 1 <= 1")
        before = write_page(desk.book)
        for line in ("drop b", "fact a x <= y", "rename a a", "claim a no", "redo", "judge b", "nothing"):
            desk(line)
        self.assertEqual([write_page(desk.book), desk.book.history()], [before, (1, 0)])


class BooksTest(unittest.TestCase):
    def test_the_very_book(self):
        book = Book("q")
        desk = Desk(book=book)
        self.assertIs(desk.book, book)
        desk("claim c S[q] <= S[q2]")
        self.assertEqual([book.names(), desk("judge c"), book.kept()], [["c"], "dealt", ["c"]])
        book.apply(("drop", "c"))
        self.assertEqual(desk("names"), "none")

    def test_without_a_book(self):
        desk = Desk()
        self.assertEqual([desk.book, desk.book.columns, desk.book.limit], [Book("xy"), "xy", 12])
        self.assertIsNot(Desk().book, Desk().book)
        self.assertEqual(Desk(book=None).book, Book("xy"))
        with self.assertRaises(TypeError):
            Desk(Book("xy"))
        self.assertRaises(AttributeError, setattr, desk, "book", Book("x"))

    def test_two_desks_with_one_book(self):
        book = Book("xy")
        one, other = Desk(book=book), Desk(book=book)
        self.assertEqual([one("fact a x <= y"), other("names"), other("drop a"), one("names"), one("undo"), other("show a")],
                         ["done", "a", "done", "none", "done", "fact x <= y"])
        self.assertEqual([len(one), len(other), one.log()[0]], [3, 3, ("fact a x <= y", "done")])

    def test_log(self):
        desk = Desk()
        self.assertEqual([desk.log(), len(desk), repr(desk), bool(desk)], [[], 0, "Desk(0 lines)", True])
        desk.say(line="names")
        desk("nothing")
        desk.log().clear()
        desk.log().append(None)
        self.assertEqual([desk.log(), len(desk), type(desk.log())], [[("names", "none"), ("nothing", "unknown")], 2, list])


class AgreementTest(unittest.TestCase):
    """The same book by lines, by calls and by pages tells the same."""

    def test_lines_and_calls(self):
        pick = random.Random(1)
        for _ in range(25):
            desk, book = Desk(), Book("xy")
            for _ in range(30):
                word = pick.choice(["fact", "premise", "claim", "claim", "drop", "rename", "undo", "redo", "judge", "power"])
                name, fresh = (pick.choice(["a", "b", "c", "d", "e", "F"]) for _ in range(2))
                text = pick.choice(FACTS if word == "fact" else CLAIMS)
                self.assertEqual(*self.both(desk, book, word, name, fresh, text))
                self.assertEqual([desk.book, desk.book.history(), desk.book.kept(), desk.book.computed],
                                 [book, book.history(), book.kept(), book.computed])
            self.assertEqual(read_page(write_page(desk.book)), book)
            self.check_told(desk.book, read_page(write_page(book)))

    def both(self, desk, book, word, name, fresh, text):
        """The answer of the desk, and what the call on the book says."""
        if word in ("fact", "premise", "claim"):
            return desk(f"{word} {name} {text}"), self.told(book.apply, (word, name, text))
        if word == "drop":
            return desk(f"drop {name}"), self.told(book.apply, (word, name))
        if word == "rename":
            return desk(f"rename {name} {fresh}"), self.told(book.apply, (word, name, fresh))
        if word in ("undo", "redo"):
            return desk(word), self.told(getattr(book, word))
        if word == "judge":
            wanted = raised_by(book.verdict, name)
            return desk(f"judge {name}"), f"error {wanted[0]}" if wanted else book.verdict(name).told()
        if name not in book or book.kind_of(name) != "claim":
            return desk(f"power {name}"), "error UnknownName"
        wanted = raised_by(greatest_power, book.claim(name))
        return desk(f"power {name}"), "any" if wanted else "/".join(map(str, greatest_power(book.claim(name))))

    def told(self, call, *arguments):
        error = raised_by(call, *arguments)
        return f"error {error[0]}" if error else "done"

    def check_told(self, one, other):
        for name in one.names():
            if one.kind_of(name) == "claim":
                papers = []
                for book in (one, other):
                    try:
                        papers.append(book.verdict(name))
                    except Tight as error:
                        papers.append(error.paper)
                self.assertEqual([paper.told() for paper in papers[1:]], [papers[0].told()])
                self.assertEqual([paper.holds() for paper in papers], [True, True])


if __name__ == "__main__":
    unittest.main()
