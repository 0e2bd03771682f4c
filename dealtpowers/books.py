"""Books: facts, premises and claims by name, with steps that can be undone, and with verdicts."""

from dealtpowers.claims import read_claim
from dealtpowers.errors import DuplicateName, Full, InvalidColumns, InvalidCommand, InvalidLimit, InvalidName
from dealtpowers.errors import NothingLeft, TooMany, UnknownName, WrongKind
from dealtpowers.exponents import LETTERS, is_columns
from dealtpowers.judging import judge
from dealtpowers.numbers import is_number
from dealtpowers.schemas import Schema

KINDS = ("fact", "premise", "claim")
LONGEST_NAME = 6
# So many facts and so many premises there may be.
MOST_RULES = 4


class Book:
    """Facts, premises and claims by name; each is an entry, a tuple (kind, name, text)."""

    MOST = 20

    def __init__(self, columns, *, limit=12):
        if not is_columns(columns):
            raise InvalidColumns(columns)
        self.columns = columns
        # A list of entries that belongs to a step is never changed, but replaced.
        self._entries = []
        self._done = []
        self._undone = []
        self._papers = {}
        self._computed = 0
        self._busy = False
        self.set_limit(limit)

    @property
    def limit(self):
        """How many names there may be."""
        return self._limit

    @limit.setter
    def limit(self, value):
        if not is_number(value, max(1, len(self._entries))) or value > Book.MOST:
            raise InvalidLimit(value)
        self._limit = value

    def set_limit(self, value):
        """Assigns the limit."""
        self.limit = value

    @property
    def busy(self):
        """Whether commands are being done."""
        return self._busy

    @property
    def computed(self):
        """How many verdicts were computed and kept."""
        return self._computed

    def apply(self, *commands):
        """Does all commands as one step, or none."""
        for at, command in enumerate(commands):
            if not _is_command(command):
                raise InvalidCommand(at)
        self._busy = True
        try:
            entries = self._entries
            for command in commands:
                entries = self._behind(entries, command)
        finally:
            self._busy = False
        self._done.append(self._entries)
        self._undone = []
        self._replace(entries)

    def undo(self):
        """Takes the last step back."""
        if not self._done:
            raise NothingLeft()
        self._undone.append(self._entries)
        self._replace(self._done.pop())

    def redo(self):
        """Makes the step again that was taken back last."""
        if not self._undone:
            raise NothingLeft()
        self._done.append(self._entries)
        self._replace(self._undone.pop())

    def history(self):
        """The pair of the numbers of steps that can be undone and redone."""
        return (len(self._done), len(self._undone))

    def names(self):
        """The list of the names, in order."""
        return [name for _, name, _ in self._entries]

    def kind_of(self, name):
        """The kind of a name: fact, premise or claim."""
        return self._entry(name)[0]

    def text_of(self, name):
        """The text of a name."""
        return self._entry(name)[2]

    def rules(self):
        """The schema of the book."""
        plain = Schema(self.columns)
        return Schema(self.columns, [plain.read_fact(text) for text in _texts(self._entries, "fact")])

    def premises(self):
        """The list of the premises, in order."""
        schema = self.rules()
        return [read_claim(schema, text) for text in _texts(self._entries, "premise")]

    def claim(self, name):
        """The claim of the name of a claim or of a premise, in the schema of the book."""
        kind, _, text = self._entry(name)
        if kind == "fact":
            raise UnknownName(name)
        return read_claim(self.rules(), text)

    def verdict(self, name):
        """The paper for the claim of a name and all premises."""
        if self._entry(name)[0] != "claim":
            raise UnknownName(name)
        if name not in self._papers:
            self._papers[name] = judge(self.claim(name), premises=self.premises())
            self._computed = self._computed + 1
        return self._papers[name]

    def kept(self):
        """The ascending list of the names whose verdicts are kept."""
        return sorted(self._papers)

    def walk(self):
        """A generator of the tuples (kind, name, text), in order."""
        for entry in self._entries:
            yield entry

    def twin(self):
        """An independent book with all that this one has."""
        other = Book(self.columns)
        other._entries = self._entries
        other._done = list(self._done)
        other._undone = list(self._undone)
        other._papers = dict(self._papers)
        other._computed = self._computed
        other._limit = self._limit
        return other

    def __contains__(self, name):
        return name in [own for _, own, _ in self._entries]

    def __len__(self):
        return len(self._entries)

    def __bool__(self):
        return True

    def __eq__(self, other):
        return isinstance(other, Book) and self.columns == other.columns and self._entries == other._entries

    def __repr__(self):
        return f"Book({len(self._entries)} names)"

    def _entry(self, name):
        at = _place(self._entries, name)
        if at is None:
            raise UnknownName(name)
        return self._entries[at]

    def _replace(self, entries):
        """Takes other entries, and forgets the verdicts that may be others for them."""
        before = self._entries
        self._entries = entries
        if any([_texts(before, kind) != _texts(entries, kind) for kind in ("fact", "premise")]):
            self._papers = {}
            return
        old = _claims(before)
        new = _claims(entries)
        self._papers = {name: paper for name, paper in self._papers.items() if old[name] == new.get(name, "")}

    def _behind(self, entries, command):
        """The entries behind a command."""
        word, name, *rest = command
        if word in KINDS:
            return self._written(entries, command)
        at = _place(entries, name)
        if at is None:
            raise UnknownName(name)
        if word == "drop":
            return entries[:at] + entries[at + 1:]
        fresh = rest[0]
        if not _is_name(fresh):
            raise InvalidName(fresh)
        if _place(entries, fresh) is not None:
            raise DuplicateName(fresh)
        return entries[:at] + [(entries[at][0], fresh, entries[at][2])] + entries[at + 1:]

    def _written(self, entries, command):
        """The entries with one more, or with another text of one."""
        kind, name, text = command
        if not _is_name(name):
            raise InvalidName(name)
        at = _place(entries, name)
        if at is None:
            self._check_room(entries, kind)
        elif entries[at][0] != kind:
            raise WrongKind(name)
        _check_text(self.columns, kind, text)
        if at is None:
            return entries + [command]
        return entries[:at] + [command] + entries[at + 1:]

    def _check_room(self, entries, kind):
        if len(entries) >= self._limit:
            raise Full(self._limit)
        if kind != "claim" and len(_texts(entries, kind)) >= MOST_RULES:
            raise TooMany(MOST_RULES)


def filled_book(columns, limit, entries):
    """A book with these entries, of which it has made no steps; entries must be right."""
    book = Book(columns, limit=limit)
    book._entries = list(entries)
    return book


def _is_command(value):
    if not isinstance(value, tuple) or not value:
        return False
    if value[0] == "drop":
        return len(value) == 2
    return value[0] in ("fact", "premise", "claim", "rename") and len(value) == 3


def _is_name(value):
    if not isinstance(value, str) or not 1 <= len(value) <= LONGEST_NAME:
        return False
    return all([letter in LETTERS for letter in value])


def _place(entries, name):
    """The index of the entry with a name, or None."""
    for at, entry in enumerate(entries):
        if entry[1] == name:
            return at
    return None


def _texts(entries, kind):
    """The list of the texts of a kind, in order."""
    return [text for own, _, text in entries if own == kind]


def _claims(entries):
    """The texts of the claims by name."""
    return {name: text for kind, name, text in entries if kind == "claim"}


def _check_text(columns, kind, text):
    """Refuses what is no text of this kind."""
    schema = Schema(columns)
    if kind == "fact":
        schema.read_fact(text)
    else:
        read_claim(schema, text)
