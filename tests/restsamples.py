"""What is nothing and what is left in rule books the plain way, each room worked out once."""

import plain
from samples import told

FOUND = {}


def nothing_of(book, length):
    key = told(book) + (length,)
    if key not in FOUND:
        FOUND[key] = plain.nothing(book.prime, book.letters, book.rules, length)
    return FOUND[key]


def rest_of(book, length, row):
    return plain.left(book.prime, nothing_of(book, length), row)


def rests_of(book, length):
    """The rest words."""
    firsts = {plain.first(row) for row in nothing_of(book, length)}
    return [word for at, word in enumerate(plain.words(book.letters, length)) if at not in firsts]


def count_of(book, length):
    return len(rests_of(book, length))


def unit_of(letters, word):
    """The row of one word."""
    return plain.unit(letters ** len(word), plain.spot(letters, word))


def dark_of(book):
    """The rules of the shadow."""
    return plain.dark(book.prime, book.rules, book.letters ** 2)
