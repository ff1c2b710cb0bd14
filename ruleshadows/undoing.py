"""The numbers that undo the counts of a rule book."""

from ruleshadows.books import check_book
from ruleshadows.checks import check_from, words_many
from ruleshadows.reststock import RestStock
from ruleshadows.shadows import shadow


def back_counts(book, most):
    """The list of the numbers that, with signs by turns, undo the counts up to most."""
    check_book(book)
    check_from(most, 0, "most")
    words_many(book.letters, most)
    return _undone(_counts(book, most))


def _counts(book, most):
    stock = RestStock(book)
    return [stock.many(length) for length in range(most + 1)]


def _undone(counts):
    """The numbers b with b[0] = 1 for which b[0] * counts[l] - b[1] * counts[l - 1] + .. is 0 for each l from 1 on."""
    signed = [1]
    for length in range(1, len(counts)):
        signed.append(-sum([signed[i] * counts[length - i] for i in range(length)]))
    return [-number if i & 1 else number for i, number in enumerate(signed)]


def counts_undo(book, most):
    """Whether the counts of the shadow up to most are these numbers."""
    return back_counts(book, most) == _counts(shadow(book), most)
