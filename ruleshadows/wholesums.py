"""The one sum of words that a rule book with a paired shadow comes out of."""

from ruleshadows.books import check_book
from ruleshadows.checks import MOST_WORDS, check_from, words_many
from ruleshadows.commonstock import CommonStock
from ruleshadows.errors import BadBook, TooMany
from ruleshadows.forms import paired_top
from ruleshadows.shadows import shadow
from ruleshadows.solving import dense_rows
from ruleshadows.sums import rules_of_sum


def whole_sum(book, most):
    """The top of the shadow and the only row that the rules at all places have in common in this length."""
    top = paired_top(shadow(book), most)
    if top is None or top < 2:
        raise BadBook("paired")
    return (top, dense_rows(words_many(book.letters, top), CommonStock(book).full_rows(top))[0])


def sums_for(book, length):
    """The ascending list of the common rows that begin with 1 and that the book comes out of."""
    check_book(book)
    check_from(length, 2, "length")
    size = words_many(book.letters, length)
    commons = CommonStock(book)
    many = 1
    for _ in range(commons.many(length)):
        many *= book.prime
        if many > MOST_WORDS:
            raise TooMany(MOST_WORDS)
    rows = dense_rows(size, commons.full_rows(length))
    found = [row for row in _leading_sums(book.prime, size, rows) if _comes_out(book, length, row)]
    return sorted(found)


def _comes_out(book, length, row):
    return rules_of_sum(book.prime, book.letters, length, row) == book


def _leading_sums(prime, size, rows):
    """All sums of multiples of these rows, a tidy list, whose first number that is not 0 is 1."""
    found = []
    behind = [(0,) * size]
    # Each such sum is one row, once, and any multiples of those behind it.
    for row in rows[::-1]:
        found.extend([_plus(prime, row, 1, other) for other in behind])
        behind = [_plus(prime, row, times, other) for other in behind for times in range(prime)]
    return found


def _plus(prime, row, times, other):
    return tuple([(times * x + y) % prime for x, y in zip(row, other)])
