"""The errors of the package: RuleError, and all others directly below it."""


class RuleError(ValueError):
    """What is handed in is not as it must be."""


class BadBook(RuleError):
    """A value that is no rule book, or one that does not go with another one."""

    def __init__(self, part):
        RuleError.__init__(self, f"a wrong rule book: {part!r}")
        self.part = part


class BadCells(RuleError):
    """Cells that are of the wrong form, or do not keep."""


class BadDeed(RuleError):
    """A value that is no deed."""


class BadLive(RuleError):
    """A value that is no live rule book."""


class BadLower(RuleError):
    """A value that is no book with lower parts."""


class BadMap(RuleError):
    """A table that is no map."""


class BadName(RuleError):
    """A value that is no name."""


class BadNumber(RuleError):
    """A value that is no number of the range asked; part tells which one."""

    def __init__(self, part):
        RuleError.__init__(self, f"a wrong number: {part!r}")
        self.part = part


class BadOrder(RuleError):
    """A value that is no order of the letters."""


class BadPrime(RuleError):
    """A value that is no prime from 2 to 97."""


class BadRow(RuleError):
    """A value that is no row, or no list of rows, as asked."""


class BadStart(RuleError):
    """A value that is no start."""


class BadTable(RuleError):
    """A value that is no table as asked."""


class BadText(RuleError):
    """A text that tells nothing; at is the index of its first wrong line."""

    def __init__(self, at):
        RuleError.__init__(self, f"a wrong line: {at!r}")
        self.at = at


class BadWeb(RuleError):
    """Values that are no web."""


class BadWord(RuleError):
    """A value that is no word as asked."""


class NoMark(RuleError):
    """A value that is the name of no mark."""

    def __init__(self, name):
        RuleError.__init__(self, f"no mark of this name: {name!r}")
        self.name = name


class NoWatch(RuleError):
    """A value that is no watched name."""

    def __init__(self, name):
        RuleError.__init__(self, f"nothing watched of this name: {name!r}")
        self.name = name


class NotAlike(RuleError):
    """Two rule books that do not share what they should."""


class NotFull(RuleError):
    """A sum of words that is not full."""


class NotTidy(RuleError):
    """A rule book that is not tidy by the order."""


class NothingLeft(RuleError):
    """No deed is left to take back or to do again."""


class TooMany(RuleError):
    """More than the most that is worked out."""

    def __init__(self, most):
        RuleError.__init__(self, f"more than: {most!r}")
        self.most = most
