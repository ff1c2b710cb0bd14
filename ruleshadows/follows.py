"""Which letters follow which ones in plain words, and counts of any length by them."""

from ruleshadows.checks import check_between, check_from
from ruleshadows.errors import TooMany
from ruleshadows.orders import check_order, head_flags
from ruleshadows.sweeps import check_tidy

MOST_LONG = 1000


def follows(book, order):
    """The square with 1 at a, b if the word (a, b) is plain, else 0."""
    check_order(book, order)
    flags = head_flags(book, order)
    letters = book.letters
    return tuple([tuple([int(not flags[a * letters + b]) for b in range(letters)]) for a in range(letters)])


def longer_counts(square, counts):
    """How many plain words a letter longer end with each letter, from how many do so far."""
    letters = len(square)
    return [sum([counts[a] for a in range(letters) if square[a][b]]) for b in range(letters)]


def count_long(book, order, length):
    """The count of a length up to 1000, in full."""
    check_tidy(book, order)
    check_from(length, 0, "length")
    if length > MOST_LONG:
        raise TooMany(MOST_LONG)
    if length == 0:
        return 1
    square = follows(book, order)
    counts = [1] * book.letters
    for _ in range(length - 1):
        counts = longer_counts(square, counts)
    return sum(counts)


def count_far(book, order, length, modulo):
    """The count of a length up to 10 ** 30, modulo a number."""
    check_tidy(book, order)
    check_between(length, 0, 10 ** 30, "length")
    check_between(modulo, 1, 10 ** 30, "modulo")
    if length == 0:
        return 1 % modulo
    square = follows(book, order)
    counts = [[1] * book.letters]
    left = length - 1
    while left:
        if left & 1:
            counts = squares_joined(counts, square, modulo)
        square = squares_joined(square, square, modulo)
        left = left // 2
    return sum(counts[0]) % modulo


def squares_joined(one, other, modulo):
    """The rows of one led by those of other, modulo a number."""
    return [
        [sum([row[k] * other[k][b] for k in range(len(other))]) % modulo for b in range(len(other[0]))]
        for row in one
    ]
