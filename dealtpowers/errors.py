"""The errors of the package; each has its class's name in the attribute code."""

from dealtpowers.values import copied


class DealError(ValueError):
    """Base class of the errors of wrong arguments and wrong states."""


class Missing(LookupError):
    """Base class of the error of an unknown name."""


class InvalidNumber(DealError):
    """A value is not a number of the wanted kind."""

    def __init__(self, given):
        self.given = copied(given)
        self.code = "InvalidNumber"


class InvalidSystem(DealError):
    """A system has a wrong row, bound or list; at is -1 for the lists themselves."""

    def __init__(self, at):
        self.at = copied(at)
        self.code = "InvalidSystem"


class InvalidColumns(DealError):
    """The columns are not the wanted different lowercase letters."""

    def __init__(self, given):
        self.given = copied(given)
        self.code = "InvalidColumns"


class InvalidFact(DealError):
    """A fact is wrong; at is -1 for the list of facts itself."""

    def __init__(self, at):
        self.at = copied(at)
        self.code = "InvalidFact"


class InvalidExponent(DealError):
    """A value is no exponent."""

    def __init__(self, given):
        self.given = copied(given)
        self.code = "InvalidExponent"


class InvalidFactor(DealError):
    """A factor is wrong; at is -1 for the list of factors itself."""

    def __init__(self, at):
        self.at = copied(at)
        self.code = "InvalidFactor"


class InvalidGroup(DealError):
    """A group is wrong; at is -1 for the list of groups itself."""

    def __init__(self, at):
        self.at = copied(at)
        self.code = "InvalidGroup"


class InvalidClaim(DealError):
    """A value is no claim; at is -1 for the list of claims itself."""

    def __init__(self, at):
        self.at = copied(at)
        self.code = "InvalidClaim"


class InvalidSums(DealError):
    """An exponent or a known sum is wrong; at is -1 for the list itself."""

    def __init__(self, at):
        self.at = copied(at)
        self.code = "InvalidSums"


class InvalidRow(DealError):
    """A value is no row of the schema."""

    def __init__(self, given):
        self.given = copied(given)
        self.code = "InvalidRow"


class InvalidDeed(DealError):
    """A value is no deed."""

    def __init__(self, at):
        self.at = copied(at)
        self.code = "InvalidDeed"


class InvalidName(DealError):
    """A value is no name."""

    def __init__(self, name):
        self.name = copied(name)
        self.code = "InvalidName"


class InvalidText(DealError):
    """A value is no text of the wanted kind."""

    def __init__(self):
        self.code = "InvalidText"


class InvalidCommand(DealError):
    """A value is no command."""

    def __init__(self, at):
        self.at = copied(at)
        self.code = "InvalidCommand"


class InvalidLimit(DealError):
    """A value is no limit."""

    def __init__(self, given):
        self.given = copied(given)
        self.code = "InvalidLimit"


class InvalidPage(DealError):
    """A line of a page is wrong."""

    def __init__(self, line):
        self.line = copied(line)
        self.code = "InvalidPage"


class WrongWidth(DealError):
    """The width is another one than the wanted one."""

    def __init__(self, width):
        self.width = copied(width)
        self.code = "WrongWidth"


class WrongSchema(DealError):
    """The schema is another one than the wanted one."""

    def __init__(self, at):
        self.at = copied(at)
        self.code = "WrongSchema"


class WrongKind(DealError):
    """The name stands for another kind."""

    def __init__(self, name):
        self.name = copied(name)
        self.code = "WrongKind"


class TooMany(DealError):
    """There are more items than the most that are allowed."""

    def __init__(self, most):
        self.most = copied(most)
        self.code = "TooMany"


class TooHigh(DealError):
    """An exponent would have a number above the highest one."""

    def __init__(self, at):
        self.at = copied(at)
        self.code = "TooHigh"


class EqualSums(DealError):
    """An exponent is equal to one ahead of it."""

    def __init__(self, at):
        self.at = copied(at)
        self.code = "EqualSums"


class Tight(DealError):
    """The premises can be kept only with equality; the paper shows it."""

    def __init__(self, paper):
        self.paper = copied(paper)
        self.code = "Tight"


class Boundless(DealError):
    """A claim holds with every power."""

    def __init__(self):
        self.code = "Boundless"


class NoTable(DealError):
    """No table has the known sums."""

    def __init__(self):
        self.code = "NoTable"


class NotThere(DealError):
    """Rows that are struck cannot be in the table."""

    def __init__(self):
        self.code = "NotThere"


class BrokenClaim(DealError):
    """A claim that holds in all tables would not hold with the sums."""

    def __init__(self, broken):
        self.broken = copied(broken)
        self.code = "BrokenClaim"


class DuplicateName(DealError):
    """The name is taken."""

    def __init__(self, name):
        self.name = copied(name)
        self.code = "DuplicateName"


class Full(DealError):
    """A book has as many names as its limit."""

    def __init__(self, limit):
        self.limit = copied(limit)
        self.code = "Full"


class Empty(DealError):
    """There is no row yet."""

    def __init__(self):
        self.code = "Empty"


class UnknownName(Missing):
    """A value is no name that is known."""

    def __init__(self, name):
        self.name = copied(name)
        self.code = "UnknownName"


class NothingLeft(IndexError):
    """There is no step that can be undone or redone."""

    def __init__(self):
        self.code = "NothingLeft"
