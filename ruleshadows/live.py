"""Live rule books: deeds done and taken back, sums and tells watched, marks."""

from ruleshadows.books import (
    Rules,
    book_led,
    exchange_book,
    free_book,
    minus_book,
    read_back,
    shut_book,
    weighed_book,
)
from ruleshadows.checks import check_row, is_any_table, is_row, length_many
from ruleshadows.deedforms import ROW_DEEDS, SIDE_DEEDS, START_DEEDS, led_along, plain_deed, plain_row, plain_start
from ruleshadows.errors import BadDeed, BadName, BadStart, NoMark, NothingLeft, NoWatch, RuleError
from ruleshadows.rests import rest
from ruleshadows.reststock import RestStock
from ruleshadows.shadows import common_rules, joined_rules, shadow
from ruleshadows.sides import ahead_sides, behind_sides, free_sides, shut_sides

START_ITEMS = {"rules": 4, "free": 3, "shut": 3, "exchange": 3, "minus": 3, "weighed": 3}
NAME_LETTERS = "abcdefghijklmnopqrstuvwxyz"
MOST_NAME = 8
ROW_SIZES = (1, 4, 9, 16, 25, 36, 49, 64, 81)


def started(start):
    """The rule book that a start tells."""
    if not isinstance(start, tuple) or not start or not isinstance(start[0], str):
        raise BadStart("a tuple that begins with a word is asked")
    word = start[0]
    if START_ITEMS.get(word) != len(start):
        raise BadStart("one of the words of starts, and as many items as belong to it, are asked")
    if word == "rules":
        return Rules(start[1], start[2], start[3])
    if word == "free":
        return free_book(start[1], start[2])
    if word == "shut":
        return shut_book(start[1], start[2])
    if word == "exchange":
        return exchange_book(start[1], start[2])
    if word == "minus":
        return minus_book(start[1], start[2])
    return weighed_book(start[1], start[2])


def _is_start(value):
    try:
        started(value)
    except RuleError:
        return False
    return True


def is_deed(thing):
    """Whether any value is a deed."""
    if not isinstance(thing, tuple) or not thing or not isinstance(thing[0], str):
        return False
    word = thing[0]
    if word == "shadow" or word == "back":
        return len(thing) == 1
    if len(thing) != 2:
        return False
    if word in ROW_DEEDS:
        return any([is_row(thing[1], size) for size in ROW_SIZES])
    if word == "led":
        return is_any_table(thing[1])
    return word in START_DEEDS and _is_start(thing[1])


def is_name(value):
    """Whether any value is a name."""
    if not isinstance(value, str) or not 1 <= len(value) <= MOST_NAME:
        return False
    return all([letter in NAME_LETTERS for letter in value])


def _check_name(name):
    if not is_name(name):
        raise BadName("a string of 1 to 8 letters from a to z is asked")


def _book_after(book, deed):
    """What the deed makes of the book."""
    word = deed[0]
    if word == "shadow":
        return shadow(book)
    if word == "back":
        return read_back(book)
    if word == "led":
        return book_led(book, deed[1])
    if word in ROW_DEEDS:
        alone = Rules(book.prime, book.letters, [deed[1]])
        return joined_rules(book, alone) if word == "put" else common_rules(book, shadow(alone))
    other = started(deed[1])
    if word == "join":
        return joined_rules(book, other)
    if word == "meet":
        return common_rules(book, other)
    if word == "free":
        return free_sides(book, other)
    if word == "shut":
        return shut_sides(book, other)
    if word == "ahead":
        return ahead_sides(book, other)
    return behind_sides(book, other)


def _more_letters(deed):
    """How many letters more the deed makes."""
    return started(deed[1]).letters if deed[0] in SIDE_DEEDS else 0


class LiveBook:
    """A rule book that deeds change. What a deed changes is made anew, so that to take it back is to take what was."""

    def __init__(self, start):
        self.book = started(start)
        self.prime = self.book.prime
        self.start = plain_start(start)
        self.standing = 0
        # The deeds done, each with the book and what was watched just ahead of it.
        self._done = []
        # The deeds taken back, the last one last.
        self._undone = []
        self._watches = {}
        self._marks = {}

    def do(self, deed):
        """Does a deed."""
        if not is_deed(deed):
            raise BadDeed("a deed is asked")
        self._go_on(plain_deed(self.prime, deed))
        self._undone = []

    def _go_on(self, deed):
        """Changes the book and what is watched; whatever raises something comes ahead of all changes."""
        book = _book_after(self.book, deed)
        more = _more_letters(deed)
        watches = {
            name: led_along(self.prime, self.book.letters, more, deed, self._watches[name])
            for name in self._watches
        }
        self._done.append((deed, self.book, self._watches))
        self.book = book
        self._watches = watches
        self.standing = len(self._done)

    def deeds(self):
        """The list of the deeds done, in sequence."""
        return [done[0] for done in self._done]

    def undo(self):
        """Takes the last deed done back."""
        if not self._done:
            raise NothingLeft("no deed to take back")
        deed, self.book, self._watches = self._done.pop()
        self._undone.append(deed)
        self.standing = len(self._done)

    def redo(self):
        """Does the deed that was last taken back again."""
        if not self._undone:
            raise NothingLeft("no deed to do again")
        self._go_on(self._undone[-1])
        self._undone.pop()

    def watch_sum(self, name, length, row):
        """Watches a sum of words of the book."""
        self._watch(name, "sum", length, row)

    def watch_tell(self, name, length, row):
        """Watches a sum of words of the shadow, which tells numbers of sums."""
        self._watch(name, "tell", length, row)

    def _watch(self, name, kind, length, row):
        _check_name(name)
        check_row(row, length_many(self.book.letters, length))
        watches = {known: self._watches[known] for known in self._watches}
        watches[name] = (kind, length, plain_row(self.prime, row))
        self._watches = watches

    def unwatch(self, name):
        """Lets go what is watched under this name."""
        if not isinstance(name, str) or name not in self._watches:
            raise NoWatch(name)
        self._watches = {known: self._watches[known] for known in self._watches if known != name}

    def watched(self):
        """The ascending dict from the watched names to what is watched: its kind, length and row."""
        return {name: self._watches[name] for name in sorted(self._watches)}

    def values_told(self):
        """The ascending dict from pairs of names of a sum and a tell of one length to the value of these."""
        found = {}
        for one in sorted(self._watches):
            for other in sorted(self._watches):
                ahead, behind = self._watches[one], self._watches[other]
                if one < other and ahead[0] != behind[0] and ahead[1] == behind[1]:
                    found[(one, other)] = sum([x * y for x, y in zip(ahead[2], behind[2])]) % self.prime
        return found

    def rests_told(self):
        """The ascending dict from the watched names to the rests of what is watched."""
        books = {"sum": self.book, "tell": shadow(self.book)}
        found = {}
        for name in sorted(self._watches):
            kind, length, row = self._watches[name]
            found[name] = rest(books[kind], length, row)
        return found

    def told(self):
        """What is told of the present book."""
        stock = RestStock(self.book)
        return {
            "back": read_back(self.book) == self.book,
            "counts": tuple([stock.many(length) for length in range(4)]),
            "letters": self.book.letters,
            "rules": len(self.book.rules),
            "shadow": shadow(self.book) == self.book,
        }

    def mark(self, name):
        """Keeps the present book and the deeds done under this name."""
        _check_name(name)
        self._marks[name] = (self.book, self.deeds())

    def marks(self):
        """The ascending list of the names of all marks."""
        return sorted(self._marks)

    def _mark_of(self, name):
        if not isinstance(name, str) or name not in self._marks:
            raise NoMark(name)
        return self._marks[name]

    def marked(self, name):
        """The rule book kept under this name."""
        return self._mark_of(name)[0]

    def carried(self, name):
        """What a sum of the marked book is by now: its kind, whether it is reversed, what its letters are; None."""
        book, before = self._mark_of(name)
        done = self.deeds()
        if done[:len(before)] != before:
            return None
        size = book.letters
        # A letter is a sum of length 1, and is led along as what is watched is.
        parts = [("sum", 1, tuple([int(a == b) for b in range(size)])) for a in range(size)]
        turned = False
        for deed in done[len(before):]:
            more = _more_letters(deed)
            parts = [led_along(self.prime, size, more, deed, part) for part in parts]
            size += more
            if deed[0] == "back":
                turned = not turned
        return (parts[0][0], turned, tuple([part[2] for part in parts]))
