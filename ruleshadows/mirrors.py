"""Mirrors of starts, deeds and live rule books: what is done to a book, done to its shadow."""

from ruleshadows.books import check_undoable
from ruleshadows.checks import check_prime
from ruleshadows.deedforms import START_DEEDS, plain_deed
from ruleshadows.errors import BadDeed, BadLive
from ruleshadows.live import LiveBook, is_deed, started
from ruleshadows.shadows import shadow
from ruleshadows.tables import turned_over

MIRRORED = {
    "shadow": "shadow",
    "back": "back",
    "put": "bar",
    "bar": "put",
    "led": "led",
    "join": "meet",
    "meet": "join",
    "free": "shut",
    "shut": "free",
    "ahead": "behind",
    "behind": "ahead",
}


def mirrored_start(start):
    """The start that has the rules of the shadow of the started book as rows."""
    book = started(start)
    return ("rules", book.prime, book.letters, shadow(book).rules)


def mirrored_deed(prime, deed):
    """The deed that does to the shadow what this one does to a book over the prime."""
    check_prime(prime)
    if not is_deed(deed):
        raise BadDeed("a deed is asked")
    plain = plain_deed(prime, deed)
    word = MIRRORED[plain[0]]
    if word == "led":
        check_undoable(prime, len(plain[1]), plain[1])
        return (word, turned_over(prime, plain[1]))
    if word in START_DEEDS:
        return (word, mirrored_start(plain[1]))
    return (word,) + plain[1:]


def check_live(live):
    """Raises BadLive for what is no live rule book."""
    if not isinstance(live, LiveBook):
        raise BadLive("a live rule book is asked")


def mirrored(live):
    """A live rule book of the mirrored start that has done the mirrored deeds."""
    check_live(live)
    made = LiveBook(mirrored_start(live.start))
    for deed in live.deeds():
        made.do(mirrored_deed(live.prime, deed))
    return made
