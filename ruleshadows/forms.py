"""Rule books with one rest in their greatest length: the numbers that two rests make of it, and what turns these."""

from ruleshadows.books import check_book
from ruleshadows.checks import check_from, words_many
from ruleshadows.errors import BadBook
from ruleshadows.rests import ending
from ruleshadows.reststock import RestStock
from ruleshadows.solving import rank, sparse
from ruleshadows.tables import exchanged, joined, table_undone


def top_length(book, most):
    """The greatest length with rests, if the next one is at most this; None."""
    end = ending(book, most)
    return None if end is None else end - 1


def pair_square(book, first, second):
    """The numbers at the only rest word of the rests of the words of length first beside those of length second."""
    check_book(book)
    check_from(first, 0, "first")
    check_from(second, 0, "second")
    words_many(book.letters, first + second)
    stock = RestStock(book)
    if stock.many(first + second) != 1:
        raise BadBook("last")
    return _square(stock, first, second)


def _square(stock, first, second):
    return tuple([
        tuple([stock.product(first, i, second, k).get(0, 0) for k in range(stock.many(second))])
        for i in range(stock.many(first))
    ])


def paired_top(book, most):
    """The top of the book if it is paired and most is above it; None. The errors of most are raised."""
    top = top_length(book, most)
    if top is None:
        return None
    stock = RestStock(book)
    if stock.many(top) != 1:
        return None
    for first in range(top + 1):
        square = _square(stock, first, top - first)
        size = len(square)
        if len(square[0]) != size or rank(book.prime, [sparse(book.prime, row) for row in square]) != size:
            return None
    return top


def is_paired(book, most):
    """Whether the book is paired and most is above its top."""
    return paired_top(book, most) is not None


def turner(book, most):
    """The letter table by which a letter in the first place and its row in the last one make the same numbers."""
    top = paired_top(book, most)
    if top is None:
        raise BadBook("paired")
    stock = RestStock(book)
    ahead, behind = _square(stock, 1, top - 1), _square(stock, top - 1, 1)
    # The table, and then the letters behind the words, must make what the letters ahead of them make.
    return joined(book.prime, ahead, table_undone(book.prime, exchanged(book.prime, behind)))
