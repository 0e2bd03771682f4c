"""Points [25] and [26] of the document, and dealtpowers/books.py."""

import copy
import random
import unittest

from dealtpowers.books import Book
from dealtpowers.claims import Claim, read_claim
from dealtpowers.errors import InvalidText, NothingLeft, Tight, UnknownName
from dealtpowers.judging import judge
from dealtpowers.schemas import Schema
from samples import ANY_VALUES, raised_by

KINDS = ("fact", "premise", "claim")
FACTS = ["x <= y", "x2 <= y", "1 <= x", "y <= x3", "x y <= y3"]
CLAIMS = ["S[x] <= S[y]", "S[x]^2 <= S[] S[y]", "S[y] <= S[x]^2", "1 <= S[]", "S[x2] <= S[x]"]
NAMES = ["a", "b", "c", "abcdef", "z", "v", "w"]
WRONG_NAMES = [value for value in ANY_VALUES if value != "x"] + ["A", "abcdefg", "a1", "a b", "a\n", " a", "a-", "x" * 2000]


def filled(**named):
    """A book with an entry for each KIND_NAME."""
    book = Book("xy", limit=20)
    book.apply(*[(*key.split("_"), text) for key, text in named.items()])
    return book


def state(book):
    """All that a book tells."""
    return (book.columns, book.limit, book.busy, book.computed, book.history(), list(book.walk()), book.kept(), len(book),
            repr(book), book.names(), book.rules(), book.premises())


class PlainBook:
    """A book as the document tells it, as plainly as can be."""

    def __init__(self):
        self.entries, self.limit, self.done, self.undone, self.kept = [], 12, [], [], set()

    def apply(self, commands):
        entries = list(self.entries)
        for command in commands:
            error = self.command(entries, *command)
            if error:
                return error
        self.done.append(self.entries)
        self.undone = []
        self.change(entries)

    def command(self, entries, word, name, text=None):
        names = [own for _, own, _ in entries]
        if word in KINDS:
            if not self.is_name(name):
                return "InvalidName", name
            kinds = [kind for kind, _, _ in entries]
            if name in names and kinds[names.index(name)] != word:
                return "WrongKind", name
            if name not in names and len(entries) >= self.limit:
                return "Full", self.limit
            if name not in names and word != "claim" and kinds.count(word) == 4:
                return "TooMany", 4
            if text not in (FACTS if word == "fact" else CLAIMS):
                return ("InvalidText",)
            if name in names:
                entries[names.index(name)] = (word, name, text)
            else:
                entries.append((word, name, text))
            return None
        if name not in names:
            return "UnknownName", name
        at = names.index(name)
        if word == "drop":
            del entries[at]
            return None
        if not self.is_name(text):
            return "InvalidName", text
        if text in names:
            return "DuplicateName", text
        entries[at] = (entries[at][0], text, entries[at][2])

    def is_name(self, name):
        return type(name) is str and 1 <= len(name) <= 6 and all("a" <= letter <= "z" for letter in name)

    def change(self, entries):
        old, self.entries = self.entries, entries
        rules = [[[text for own, _, text in some if own == kind] for kind in KINDS[:2]] for some in (old, entries)]
        claims = [{name: text for kind, name, text in some if kind == "claim"} for some in (old, entries)]
        self.kept = {name for name in self.kept if rules[0] == rules[1] and claims[0][name] == claims[1].get(name)}

    def step(self, back):
        come, go = (self.done, self.undone) if back else (self.undone, self.done)
        if not come:
            return ("NothingLeft",)
        go.append(self.entries)
        self.change(come.pop())


class RandomBookTest(unittest.TestCase):
    def random_command(self, pick):
        word = pick.choice([*KINDS, *KINDS[:2], *KINDS, "drop", "rename"])
        name = pick.choice(NAMES + [pick.choice(["", "A", "d", "e", "f", None, ("a",)])])
        if word == "drop":
            return (word, name)
        if word == "rename":
            return (word, name, pick.choice(NAMES + ["g", "h", "", 1]))
        text = pick.choice(FACTS if word == "fact" else CLAIMS)
        return (word, name, pick.choice([text, text, text, text, pick.choice(FACTS + CLAIMS + ["", None])]))

    def test_it_does_what_the_document_says(self):
        pick = random.Random(1)
        seen = {}
        for _ in range(60):
            book, plain = Book("xy"), PlainBook()
            for _ in range(40):
                told = self.random_step(pick, book, plain)
                seen[told] = seen.get(told, 0) + 1
                self.check(book, plain)
        self.assertEqual(set(seen), {None, "InvalidName", "WrongKind", "Full", "TooMany", "InvalidText", "UnknownName",
                                     "DuplicateName", "NothingLeft", "InvalidLimit", "verdict"})

    def random_step(self, pick, book, plain):
        """Does the same with both books, and returns what was told."""
        chance = pick.random()
        if chance < .55:
            commands = [self.random_command(pick) for _ in range(pick.choice([0, 1, 1, 1, 2, 3]))]
            told, wanted = raised_by(book.apply, *commands), plain.apply(commands)
        elif chance < .75:
            back = pick.random() < .6
            told, wanted = raised_by(book.undo if back else book.redo), plain.step(back)
        elif chance < .8:
            limit = pick.randint(0, 8)
            wanted = ("InvalidLimit", limit) if limit < max(1, len(plain.entries)) else None
            plain.limit = plain.limit if wanted else limit
            told = raised_by(book.set_limit, limit)
        else:
            self.ask(pick, book, plain)
            return "verdict"
        self.assertEqual(told, wanted)
        return told and told[0]

    def ask(self, pick, book, plain):
        for kind, name, text in plain.entries:
            if pick.random() < .5:
                if kind != "claim":
                    self.assertEqual(raised_by(book.verdict, name), ("UnknownName", name))
                    continue
                try:
                    paper = book.verdict(name)
                except Tight as error:
                    self.assertTrue(error.paper.holds())
                    continue
                plain.kept.add(name)
                self.assertTrue(paper.holds())
                self.assertEqual([paper.claims(), paper.premises()], [[read_claim(book.rules(), text)], book.premises()])

    def check(self, book, plain):
        self.assertEqual(list(book.walk()), plain.entries)
        self.assertEqual(book.names(), [name for _, name, _ in plain.entries])
        self.assertEqual([book.history(), book.limit], [(len(plain.done), len(plain.undone)), plain.limit])
        self.assertEqual(book.kept(), sorted(plain.kept))
        self.assertEqual([len(book), repr(book), book.busy], [len(plain.entries), f"Book({len(plain.entries)} names)", False])
        self.assertEqual([(book.kind_of(name), name, book.text_of(name)) for name in book.names()], plain.entries)


class CommandsTest(unittest.TestCase):
    def check(self, book, wanted, *commands):
        """A call with an error changes nothing; commands that come behind others fail like alone."""
        before = state(book)
        self.assertEqual(raised_by(book.apply, *commands), wanted, commands)
        self.assertEqual(state(book), before)

    def test_names_and_texts(self):
        book = filled(fact_f="x <= y", premise_p="S[x] <= S[y]", claim_c="S[x] <= S[x2]")
        for kind in KINDS:
            for value in WRONG_NAMES:
                self.check(book, ("InvalidName", value), (kind, value, None))
                self.check(book, ("InvalidName", value), (kind, "n", "x <= y" if kind == "fact" else "1 <= S[]"),
                           (kind, value, None))
                if not isinstance(value, str) or value == "":
                    self.check(book, ("UnknownName", value), ("drop", value))
                    self.check(book, ("UnknownName", value), ("rename", value, value))
                self.check(book, ("InvalidName", value), ("rename", "f", value))
            right = "x <= x2" if kind == "fact" else "S[x] <= S[x2]"
            for value in ANY_VALUES + ["x<=y", "x <= z", "S[z] <= S[x]", "S[x] S[] <= 1", "1 <= 1 ", "S[x7] <= 1",
                                       " x <= y", "S[x] <= S[x2]" if kind == "fact" else "x <= y"]:
                if value != "1 <= 1" and (value, kind) != ("x <= x2", "fact"):
                    self.check(book, ("InvalidText",), (kind, "n", value))
                    self.check(book, ("InvalidText",), (kind, kind[0], value))
                    self.check(book, ("WrongKind", "fpc"[KINDS.index(kind) - 1]),
                               (kind, "fpc"[KINDS.index(kind) - 1], value))
            book.apply((kind, kind[0], right))
            self.assertEqual(book.text_of(kind[0]), right)

    def test_no_commands(self):
        book = filled(claim_c="S[x] <= S[x2]")
        for value in ANY_VALUES + [("fact",), ("fact", "a"), ("fact", "a", "x <= y", 1), ("drop",), ("drop", "c", "c"),
                                   ("rename", "c"), ("rename", "c", "d", "e"), ("Claim", "a", "1 <= 1"), ("names",),
                                   ["drop", "c"], ("", "c"), (("drop",), "c"), (["drop"], "c"), (None, "c"), "drop"]:
            self.check(book, ("InvalidCommand", 0), value)
            self.check(book, ("InvalidCommand", 2), ("drop", "none"), ("claim", 5, 5), value, value)
        book.apply()
        self.assertEqual(book.history(), (2, 0))

    def test_texts_keep_their_place(self):
        book = filled(claim_a="1 <= S[]", fact_b="x <= y", claim_c="S[x] <= S[x2]")
        book.apply(("claim", "a", "S[] <= S[x]"), ("rename", "b", "z"), ("claim", "a", "S[] <= S[y]"))
        self.assertEqual(list(book.walk()), [("claim", "a", "S[] <= S[y]"), ("fact", "z", "x <= y"),
                                             ("claim", "c", "S[x] <= S[x2]")])
        book.apply(("drop", "a"), ("claim", "a", "1 <= S[]"), ("claim", "new", "1 <= 1"))
        self.assertEqual(book.names(), ["z", "c", "a", "new"])

    def test_renaming(self):
        book = filled(claim_a="1 <= S[]", fact_b="x <= y")
        self.check(book, ("DuplicateName", "a"), ("rename", "a", "a"))
        self.check(book, ("DuplicateName", "b"), ("rename", "a", "b"))
        self.check(book, ("UnknownName", "c"), ("rename", "c", "c"))
        self.check(book, ("UnknownName", "c"), ("rename", "c", "A"))
        self.check(book, ("UnknownName", "c"), ("rename", "c", "b"))
        self.check(book, ("InvalidName", "A"), ("rename", "a", "A"))
        book.apply(("rename", "a", "c"), ("rename", "b", "a"), ("rename", "c", "b"))
        self.assertEqual(list(book.walk()), [("claim", "b", "1 <= S[]"), ("fact", "a", "x <= y")])

    def test_the_order_of_the_errors(self):
        book = Book("xy", limit=9)
        book.apply(*[("fact", "f" + letter, "x <= y") for letter in "abcd"],
                   *[("premise", "p" + letter, "S[x] <= S[x2]") for letter in "abcd"])
        self.check(book, ("TooMany", 4), ("fact", "new", None))
        self.check(book, ("TooMany", 4), ("premise", "new", None))
        self.check(book, ("InvalidText",), ("claim", "new", None))
        self.check(book, ("InvalidName", ""), ("fact", "", None))
        self.check(book, ("WrongKind", "pa"), ("fact", "pa", None))
        self.check(book, ("InvalidText",), ("fact", "fa", None))
        book.apply(("claim", "c", "1 <= 1"))
        for kind in KINDS:
            self.check(book, ("Full", 9), (kind, "new", None))
        self.check(book, ("WrongKind", "c"), ("fact", "c", None))
        book.apply(("fact", "fa", "y <= x"), ("drop", "fb"), ("fact", "new", "1 <= x"))
        self.assertEqual([len(book), book.names()[-1]], [9, "new"])
        book.undo()
        book.set_limit(20)
        self.check(book, ("TooMany", 4), ("drop", "fb"), ("fact", "one", "x <= y"), ("fact", "two", "x <= y"))

    def test_all_commands_or_none(self):
        book = filled(claim_a="1 <= S[]")
        for commands, wanted in (([("drop", "a"), ("drop", "a")], ("UnknownName", "a")),
                                 ([("drop", "a"), ("claim", "a", "1 <= 1"), ("fact", "a", "x <= y")], ("WrongKind", "a")),
                                 ([("rename", "a", "b"), ("rename", "a", "c")], ("UnknownName", "a")),
                                 ([("claim", "b", "1 <= 1"), ("claim", "c", "")], ("InvalidText",)),
                                 ([("claim", "b", "1 <= 1"), ("drop",)], ("InvalidCommand", 1))):
            self.check(book, wanted, *commands)
        book.apply(("drop", "a"), ("fact", "a", "x <= y"))
        self.assertEqual(list(book.walk()), [("fact", "a", "x <= y")])


class BusyTest(unittest.TestCase):
    def test_while_commands_are_done(self):
        seen = []

        class Watching(str):
            def split(self, *arguments):
                seen.append(book.busy)
                return super().split(*arguments)

        book = Book("xy")
        book.apply(("fact", "a", Watching("x <= y")), ("claim", "b", Watching("1 <= 1")))
        self.assertEqual([set(seen), book.busy, len(book)], [{True}, False, 2])
        for commands in ([("fact", "c", Watching("x <= y")), ("drop", "d")], [("claim", "c", Watching("no"))]):
            self.assertIsNotNone(raised_by(book.apply, *commands))
            self.assertEqual([set(seen), book.busy, len(book)], [{True}, False, 2])


class LimitTest(unittest.TestCase):
    def test_values(self):
        self.assertEqual([Book("x").limit, Book("x", limit=1).limit, Book("x", limit=20).limit, Book.MOST], [12, 1, 20, 20])
        book = Book("x")
        for value in [value for value in ANY_VALUES if type(value) is not int] + [0, -1, 21, 10 ** 60 - 1, True]:
            self.assertEqual(raised_by(lambda: Book("x", limit=value)), ("InvalidLimit", value))
            self.assertEqual(raised_by(book.set_limit, value), ("InvalidLimit", value))
            self.assertEqual(raised_by(setattr, book, "limit", value), ("InvalidLimit", value))
            self.assertEqual(book.limit, 12)
        for value in range(1, 21):
            book.limit = value
            self.assertEqual(book.limit, value)
            self.assertIsNone(book.set_limit(value=value))

    def test_columns_come_first(self):
        for value in ANY_VALUES:
            if value != "x" or type(value) is not str:
                self.assertEqual(raised_by(Book, value), ("InvalidColumns", value))
                self.assertEqual(raised_by(Book, value, limit=None), ("InvalidColumns", value))
        for value in ("xx", "abcd", "X", "x y"):
            self.assertEqual(raised_by(Book, value), ("InvalidColumns", value))
        self.assertEqual([Book("zxy").columns, Book(columns="q").columns], ["zxy", "q"])
        with self.assertRaises(TypeError):
            Book("x", 12)

    def test_not_less_than_the_number_of_names(self):
        book = filled(claim_a="1 <= 1", claim_b="1 <= 1", fact_c="x <= y")
        self.assertEqual(raised_by(book.set_limit, 2), ("InvalidLimit", 2))
        book.limit = 3
        self.assertEqual(raised_by(book.apply, ("claim", "d", "1 <= 1")), ("Full", 3))
        book.apply(("claim", "a", "1 <= S[]"))
        book.apply(("drop", "a"), ("claim", "d", "1 <= 1"))
        self.assertEqual([book.limit, book.history()], [3, (3, 0)])

    def test_steps_do_not_look_at_it(self):
        book = filled(claim_a="1 <= 1", claim_b="1 <= 1", fact_c="x <= y")
        book.apply(("drop", "a"), ("drop", "b"))
        book.set_limit(1)
        book.undo()
        self.assertEqual([len(book), book.limit], [3, 1])
        self.assertEqual(raised_by(book.apply, ("claim", "d", "1 <= 1")), ("Full", 1))
        self.assertEqual(raised_by(book.set_limit, 2), ("InvalidLimit", 2))
        self.assertEqual(raised_by(book.apply, ("drop", "a"), ("claim", "d", "1 <= 1")), ("Full", 1))
        book.undo()
        book.redo()
        book.redo()
        self.assertEqual([len(book), book.history(), book.limit], [1, (2, 0), 1])
        book.undo()
        book.limit = 4
        book.apply(("claim", "d", "1 <= 1"))
        self.assertEqual([len(book), book.history()], [4, (2, 0)])


class StepsTest(unittest.TestCase):
    def test_many_steps(self):
        book = Book("xy")
        seen = [list(book.walk())]
        for at in range(30):
            book.apply(("claim", "abcde"[at % 5], CLAIMS[at % 4]), *[("drop", "a")] * (at % 5 == 4))
            seen.append(list(book.walk()))
        for at in reversed(range(30)):
            book.undo()
            self.assertEqual([list(book.walk()), book.history()], [seen[at], (at, 30 - at)])
        self.assertRaises(NothingLeft, book.undo)
        for at in range(1, 31):
            book.redo()
            self.assertEqual([list(book.walk()), book.history()], [seen[at], (at, 30 - at)])
        self.assertRaises(NothingLeft, book.redo)

    def test_calls_without_commands(self):
        book = filled(claim_a="1 <= 1")
        book.undo()
        self.assertEqual(raised_by(book.apply, ("drop", "a")), ("UnknownName", "a"))
        self.assertEqual(book.history(), (0, 1))
        self.assertIsNone(book.apply())
        self.assertEqual(book.history(), (1, 0))
        book.undo()
        book.redo()
        self.assertEqual([book.history(), len(book)], [(1, 0), 0])


class TellingTest(unittest.TestCase):
    BOOK = filled(fact_f="x2 <= y", premise_p="S[x] <= S[y]", claim_c="S[x] <= S[x2]", fact_g="1 <= x",
                  premise_q="1 <= S[x y]")

    def test_any_value(self):
        book = self.BOOK
        for value in WRONG_NAMES + ["x", "n", "F"]:
            for call in (book.kind_of, book.text_of, book.claim, book.verdict):
                self.assertEqual(raised_by(call, value), ("UnknownName", value))
            self.assertIs(value in book, False)
        for name in book.names():
            self.assertIs(name in book, True)

    def test_what_is_told(self):
        book = self.BOOK
        self.assertEqual([book.kind_of(name) for name in book.names()], ["fact", "premise", "claim", "fact", "premise"])
        schema = Schema("xy", [((2, 0), (0, 1)), ((0, 0), (1, 0))])
        self.assertEqual(book.rules(), schema)
        self.assertEqual(book.premises(), [read_claim(schema, "S[x] <= S[y]"), read_claim(schema, "1 <= S[x y]")])
        self.assertEqual(book.claim("c"), read_claim(schema, "S[x] <= S[x2]"))
        self.assertEqual(book.claim(name="q"), read_claim(schema, "1 <= S[x y]"))
        for name in ("f", "g"):
            self.assertEqual(raised_by(book.claim, name), ("UnknownName", name))
        for name in ("f", "p"):
            self.assertEqual(raised_by(book.verdict, name), ("UnknownName", name))
        self.assertEqual([bool(Book("x")), len(book), repr(book), repr(Book("x"))], [True, 5, "Book(5 names)", "Book(0 names)"])

    def test_walk(self):
        book = self.BOOK.twin()
        made = book.walk()
        first = next(made)
        book.apply(*[("drop", name) for name in book.names()])
        self.assertEqual([first, *made], list(self.BOOK.walk()))
        self.assertFalse(isinstance(made, (list, tuple)))
        self.assertEqual(list(book.walk()), [])

    def test_equal(self):
        book = filled(claim_a="1 <= 1", fact_b="x <= y")
        same = Book("xy", limit=2)
        same.apply(("fact", "b", "y <= x"))
        same.apply(("claim", "a", "1 <= 1"), ("drop", "b"), ("fact", "b", "x <= y"))
        same.verdict("a")
        self.assertEqual(book, same)
        for other in (filled(fact_b="x <= y", claim_a="1 <= 1"), filled(claim_a="1 <= 1"),
                      filled(premise_a="1 <= 1", fact_b="x <= y"), filled(claim_c="1 <= 1", fact_b="x <= y"),
                      filled(claim_a="1 <= S[]", fact_b="x <= y"), *ANY_VALUES):
            self.assertFalse(book == other)
            self.assertTrue(book != other)
        self.assertFalse(Book("xy") == Book("yx"))
        self.assertTrue(Book("xy") == Book("xy", limit=1))

    def test_what_is_returned_may_change(self):
        book = self.BOOK.twin()
        book.verdict("c")
        for call in (book.names, book.premises, book.kept):
            before = copy.deepcopy(call())
            call().append(None)
            call().clear()
            self.assertEqual([call(), type(call())], [before, list])


class VerdictsTest(unittest.TestCase):
    def book(self):
        book = filled(fact_f="x <= y", fact_g="1 <= x", premise_p="S[x]^2 <= S[y]", premise_q="S[] <= S[y]",
                      claim_a="S[x] <= S[y]", claim_b="S[y] <= S[x]", claim_c="S[x] <= S[y]")
        for name in "abc":
            book.verdict(name)
        return book

    def test_papers(self):
        book = self.book()
        for name in "abc":
            paper = book.verdict(name)
            again = judge(book.claim(name), premises=book.premises())
            self.assertEqual([paper.told(), paper.holds(), paper.claims(), paper.premises()],
                             [again.told(), True, [book.claim(name)], book.premises()])
        self.assertEqual([book.verdict(name).told() for name in "abc"], ["dealt", "failing", "dealt"])
        self.assertEqual([book.computed, book.kept()], [3, ["a", "b", "c"]])
        book.verdict(name="a")
        self.assertEqual(book.computed, 3)

    def test_which_stay_kept(self):
        for commands, wanted in (
                ([], "abc"), ([("claim", "d", "1 <= 1")], "abc"), ([("drop", "a")], "bc"),
                ([("claim", "a", "S[x] <= S[y]")], "abc"), ([("claim", "a", "S[] <= S[y]")], "bc"),
                ([("rename", "a", "d")], "bc"), ([("drop", "a"), ("claim", "a", "S[x] <= S[y]")], "abc"),
                ([("rename", "a", "d"), ("rename", "d", "a")], "abc"),
                # a and c stand for the same text, a and b do not.
                ([("rename", "a", "d"), ("rename", "c", "a"), ("rename", "d", "c")], "abc"),
                ([("rename", "a", "d"), ("rename", "b", "a"), ("rename", "d", "b")], "c"),
                ([("drop", "a"), ("rename", "c", "a")], "ab"),
                ([("rename", "f", "ff"), ("rename", "p", "pp")], "abc"),
                ([("fact", "f", "x <= y")], "abc"), ([("fact", "f", "x2 <= y")], ""), ([("drop", "f")], ""),
                ([("fact", "h", "x <= y")], ""), ([("premise", "p", "S[x] <= S[y]")], ""), ([("drop", "q")], ""),
                ([("premise", "r", "S[x]^2 <= S[y]")], ""),
                # Facts and premises in another order.
                ([("drop", "f"), ("fact", "f", "x <= y")], ""),
                ([("drop", "p"), ("premise", "p", "S[x]^2 <= S[y]")], ""),
                ([("fact", "f", "1 <= x"), ("fact", "g", "x <= y")], ""),
                # The same texts in the same order by other names.
                ([("drop", "f"), ("drop", "g"), ("fact", "h", "x <= y"), ("fact", "f", "1 <= x")], "abc"),
                ([("fact", "f", "y <= x"), ("fact", "f", "x <= y")], "abc"),
                ([("rename", "p", "r"), ("rename", "q", "p"), ("rename", "r", "q")], "abc"),
                # A name that stands for another kind in between.
                ([("drop", "a"), ("premise", "a", "1 <= 1")], ""),
                ([("drop", "a"), ("fact", "a", "1 <= x"), ("drop", "a"), ("claim", "a", "S[x] <= S[y]")], "abc")):
            book = self.book()
            book.apply(*commands)
            self.assertEqual(book.kept(), list(wanted), commands)
            self.assertEqual(book.computed, 3)
            book.undo()
            self.assertEqual(book.kept(), list(wanted), commands)
            book.redo()
            self.assertEqual(book.kept(), list(wanted), commands)

    def test_verdicts_that_were_forgotten_are_computed_anew(self):
        book = self.book()
        book.apply(("drop", "f"), ("drop", "p"))
        self.assertEqual([book.verdict("a").told(), book.kept(), book.computed], ["failing", ["a"], 4])
        book.undo()
        self.assertEqual(book.kept(), [])
        self.assertEqual([book.verdict("a").told(), book.computed], ["dealt", 5])
        book.redo()
        self.assertEqual([book.kept(), book.computed], [[], 5])

    def test_steps_back(self):
        book = filled(claim_a="S[x] <= S[y]")
        book.apply(("claim", "b", "1 <= 1"))
        book.verdict("a")
        book.verdict("b")
        book.undo()
        self.assertEqual(book.kept(), ["a"])
        book.redo()
        self.assertEqual(book.kept(), ["a"])
        book.undo()
        book.undo()
        self.assertEqual(book.kept(), [])
        book.redo()
        self.assertEqual([book.kept(), book.computed], [[], 2])

    def test_errors_and_limits_forget_nothing(self):
        book = self.book()
        raised_by(book.apply, ("drop", "f"), ("drop", "f"))
        raised_by(book.redo)
        raised_by(book.set_limit, 0)
        book.set_limit(9)
        self.assertEqual([book.kept(), book.computed], [["a", "b", "c"], 3])

    def test_tight_premises(self):
        book = filled(premise_p="S[y] <= S[x]", premise_q="S[x] <= S[y]", claim_a="S[x] <= S[y]")
        for _ in range(2):
            with self.assertRaises(Tight) as found:
                book.verdict("a")
            paper = found.exception.paper
            self.assertEqual([paper.claims(), paper.holds(), paper.told()],
                             [[claim.turned() for claim in book.premises()], True, "dealt"])
        self.assertEqual([book.kept(), book.computed, book.busy], [[], 0, False])
        with self.assertRaises(UnknownName):
            book.verdict("p")

    def test_twins(self):
        book = self.book()
        book.apply(("drop", "b"))
        book.undo()
        book.set_limit(9)
        twin = book.twin()
        self.assertEqual([state(twin), twin == book, twin is book], [state(book), True, False])
        before = state(book)
        twin.redo()
        twin.apply(("claim", "new", "1 <= 1"), ("drop", "a"))
        twin.verdict("new")
        twin.limit = 20
        self.assertEqual(state(book), before)
        self.assertEqual([twin.kept(), twin.computed, twin.history()], [["c", "new"], 4, (3, 0)])
        other = state(twin)
        book.undo()
        book.apply(("claim", "z", "1 <= 1"))
        book.verdict("z")
        self.assertEqual([state(twin), book.kept()], [other, ["z"]])
        crowded = filled(**{f"claim_{letter}": "1 <= 1" for letter in "abcdefghijklmnopqrst"})
        self.assertEqual([crowded.twin().limit, len(crowded.twin())], [20, 20])

    def test_a_read_claim_raises_as_ever(self):
        self.assertRaises(InvalidText, read_claim, Schema("xy"), "x <= y")
        claim = self.book().claim("a")
        self.assertIs(type(claim), Claim)


if __name__ == "__main__":
    unittest.main()
