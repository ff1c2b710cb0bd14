"""The rising ladder: pairs of rests of a book and of its shadow, a letter put behind both."""

from ruleshadows.books import check_book
from ruleshadows.checks import MOST_WORDS, check_from, words_many
from ruleshadows.errors import TooMany
from ruleshadows.reststock import RestStock
from ruleshadows.shadows import shadow
from ruleshadows.solving import dense, put, rank


def _checked_stocks(book, length, step):
    """The rests of the book and of its shadow; raises what is asked of rising_map."""
    check_book(book)
    check_from(length, 0, "length")
    check_from(step, 0, "step")
    words_many(book.letters, length + 1)
    words_many(book.letters, step + 1)
    rests, darks = RestStock(book), RestStock(shadow(book))
    for more in (0, 1):
        if rests.many(length + more) * darks.many(step + more) > MOST_WORDS:
            raise TooMany(MOST_WORDS)
    return (rests, darks)


def _rising_rows(rests, darks, length, step):
    """The rows of rising_map as dicts."""
    letters, width = rests.letters, darks.many(step + 1)
    ahead, behind = rests.right_rows(length), darks.right_rows(step)
    rows = []
    for i in range(rests.many(length)):
        for k in range(darks.many(step)):
            row = {}
            for a in range(letters):
                for at, number in ahead[i * letters + a].items():
                    for place, other in behind[k * letters + a].items():
                        put(rests.prime, row, at * width + place, number * other)
            rows.append(row)
    return rows


def rising_map(book, length, step):
    """The rows that lead the pairs of these lengths to those of one letter more each."""
    rests, darks = _checked_stocks(book, length, step)
    size = rests.many(length + 1) * darks.many(step + 1)
    return tuple([dense(size, row) for row in _rising_rows(rests, darks, length, step)])


def rising_lost(book, length, step):
    """How many more sums of pairs are led to 0 than are led to."""
    rests, darks = _checked_stocks(book, length, step)
    rows = _rising_rows(rests, darks, length, step)
    left = len(rows) - rank(book.prime, rows)
    if length == 0 or step == 0:
        return left
    return left - rank(book.prime, _rising_rows(rests, darks, length - 1, step - 1))
