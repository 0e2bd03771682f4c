"""Desks: books that are used by lines of words."""

from dealtpowers.books import KINDS, Book
from dealtpowers.errors import Boundless, DealError, NothingLeft, UnknownName
from dealtpowers.judging import greatest_power

UNKNOWN = "unknown"
DONE = "done"


class Desk:
    """Answers lines about a book."""

    def __init__(self, *, book=None):
        if book is None:
            book = Book("xy")
        self._book = book
        self._log = []

    @property
    def book(self):
        """The book."""
        return self._book

    def say(self, line):
        """The answer to a line."""
        try:
            answer = self._answer(line)
        except (DealError, UnknownName, NothingLeft) as error:
            answer = f"error {error.code}"
        self._log.append((line, answer))
        return answer

    def __call__(self, line):
        return self.say(line)

    def log(self):
        """The list of the pairs (line, answer)."""
        return list(self._log)

    def __len__(self):
        return len(self._log)

    def __bool__(self):
        return True

    def __repr__(self):
        return f"Desk({len(self._log)} lines)"

    def _answer(self, line):
        word, _, rest = line.partition(" ")
        if word in KINDS:
            # The text is the rest of the line, and may have spaces.
            name, _, text = rest.partition(" ")
            if name == "" or text == "":
                return UNKNOWN
            return self._apply((word, name, text))
        words = line.split(" ")
        if "" in words:
            return UNKNOWN
        if len(words) == 1:
            return self._alone(word)
        if word in ("drop", "rename"):
            wanted = 2 if word == "drop" else 3
            return self._apply(tuple(words)) if len(words) == wanted else UNKNOWN
        return self._told(word, words[1]) if len(words) == 2 else UNKNOWN

    def _apply(self, command):
        self._book.apply(command)
        return DONE

    def _alone(self, word):
        """The answer to a line of one word."""
        if word == "names":
            return " ".join(self._book.names()) or "none"
        if word == "undo":
            self._book.undo()
            return DONE
        if word == "redo":
            self._book.redo()
            return DONE
        return UNKNOWN

    def _told(self, word, name):
        """What is told of a name."""
        if word == "show":
            return f"{self._book.kind_of(name)} {self._book.text_of(name)}"
        if word == "judge":
            return self._book.verdict(name).told()
        if word == "power":
            return self._power(name)
        return UNKNOWN

    def _power(self, name):
        """The greatest power of a claim."""
        if name in self._book and self._book.kind_of(name) != "claim":
            raise UnknownName(name)
        try:
            top, bottom = greatest_power(self._book.claim(name))
        except Boundless:
            return "any"
        return f"{top}/{bottom}"
