"""Pages: books as texts."""

from dealtpowers.books import KINDS, Book, filled_book
from dealtpowers.errors import DealError, InvalidPage
from dealtpowers.exponents import is_columns

HEAD = "columns "


def write_page(book):
    """The page of a book."""
    lines = [f"{HEAD}{book.columns}\n"] + [f"{kind} {name}: {text}\n" for kind, name, text in list(book.walk())]
    return "".join(lines)


def read_page(text):
    """The book with a page."""
    lines = text.split("\n") if isinstance(text, str) else [""]
    columns = lines[0].removeprefix(HEAD)
    if len(lines) < 2 or not lines[0].startswith(HEAD) or not is_columns(columns):
        raise InvalidPage(0)
    book = Book(columns, limit=Book.MOST)
    # Behind the last line feed stands nothing; if something does, it is a line that lacks its own.
    for at, line in enumerate(lines[1:-1]):
        _add(book, line, at + 1)
    if lines[-1] != "":
        raise InvalidPage(len(lines) - 1)
    return filled_book(columns, Book.MOST, list(book.walk()))


def columns_of(book):
    """The list of a line for each name: name, kind and the length of the text, in columns."""
    return [f"{name:<6} {kind:<7} {len(text):>4}" for kind, name, text in list(book.walk())]


def _add(book, line, at):
    """Adds what a line says to a book."""
    kind, _, rest = line.partition(" ")
    name, _, text = rest.partition(": ")
    if kind not in KINDS or name in book:
        raise InvalidPage(at)
    try:
        book.apply((kind, name, text))
    except DealError:
        raise InvalidPage(at)
