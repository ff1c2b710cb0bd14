"""Counts of a book told by the few counts of its shadow, onwards and back."""

from ruleshadows.books import check_book
from ruleshadows.checks import check_between, check_from
from ruleshadows.errors import BadBook
from ruleshadows.forms import top_length
from ruleshadows.polys import unroll
from ruleshadows.reststock import RestStock
from ruleshadows.shadows import shadow

MOST_TOLD = 1000


def _signed_counts(book, most, many, part):
    """The counts of the shadow up to its top, each second one with minus; checks what is handed in."""
    check_book(book)
    check_from(most, 0, "most")
    check_between(many, 0, MOST_TOLD, part)
    dark = shadow(book)
    top = top_length(dark, most)
    if top is None:
        raise BadBook("ending")
    stock = RestStock(dark)
    return [-stock.many(i) if i & 1 else stock.many(i) for i in range(top + 1)]


def told_counts(book, most, length):
    """The list of the numbers, up to this length, that the counts of the shadow, with signs by turns, undo."""
    return unroll([1], _signed_counts(book, most, length, "length"), length)


def counts_back(book, most, many):
    """The same numbers gone back: those at -1, -2 and so on, so many."""
    signed = _signed_counts(book, most, many, "many")
    top = len(signed) - 1
    last = signed[top]
    if abs(last) != 1:
        raise BadBook("last")
    back = [1] + [0] * (top - 1)
    for at in range(top, many + 1):
        # As last is 1 or -1, to multiply by it is to divide by it.
        back.append(-last * sum([signed[i] * back[at - top + i] for i in range(top)]))
    return back[1:many + 1]
