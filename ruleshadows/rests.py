"""Rests: what is left of sums of words when the rules at all places are nothing."""

from ruleshadows.books import check_book
from ruleshadows.checks import check_from, check_row, check_side, length_many, words_many
from ruleshadows.reststock import RestStock
from ruleshadows.solving import dense, dense_rows, kernel_rows, mixed, sparse
from ruleshadows.words import beside


def nothing_room(book, length):
    """The tidy list of all rules put in at all places."""
    check_book(book)
    size = length_many(book.letters, length)
    return dense_rows(size, nothing_rows(RestStock(book), length))


def nothing_rows(stock, length):
    """The tidy list of nothing_room, as dicts: each word that is no rest word less its rest."""
    rows = []
    kept = {spot: True for spot in stock.spots(length)}
    for spot, left in enumerate(stock.word_rows(length)):
        if spot not in kept:
            row = {at: stock.prime - number for at, number in stock.spread(length, left).items()}
            row[spot] = 1
            rows.append(row)
    return rows


def rest_words(book, length):
    """The ascending list of the words that begin no row of nothing_room."""
    check_book(book)
    length_many(book.letters, length)
    stock = RestStock(book)
    return [stock.word(length, k) for k in range(stock.many(length))]


def count(book, length):
    """How many rest words of this length there are."""
    check_book(book)
    length_many(book.letters, length)
    return RestStock(book).many(length)


def rest(book, length, row):
    """The row that differs from this one by nothing and has 0 at all words but rest words."""
    check_book(book)
    size = length_many(book.letters, length)
    check_row(row, size)
    return _rest_of(book, length, row)


def _rest_of(book, length, row):
    stock = RestStock(book)
    left = mixed(stock.prime, sparse(stock.prime, row), stock.word_rows(length))
    return dense(len(row), stock.spread(length, left))


def rest_product(book, first, one, second, other):
    """The rest of one beside other, rows of the lengths first and second."""
    check_book(book)
    check_from(first, 0, "first")
    check_from(second, 0, "second")
    words_many(book.letters, first + second)
    check_row(one, words_many(book.letters, first))
    check_row(other, words_many(book.letters, second))
    return _rest_of(book, first + second, beside(book.prime, one, other))


def ending(book, most):
    """The least length up to most that has no rests; None."""
    check_book(book)
    check_from(most, 0, "most")
    words_many(book.letters, most)
    # Without rules there is no end, and with one letter no bound to stop at.
    if not book.rules:
        return None
    stock = RestStock(book)
    for length in range(most + 1):
        if stock.many(length) == 0:
            return length
    return None


def idle(book, length, side):
    """The tidy list of the rests that are nothing with each letter ahead (side 0) or behind (side 1)."""
    check_book(book)
    check_from(length, 0, "length")
    check_side(side)
    words_many(book.letters, length + 1)
    stock = RestStock(book)
    steps = stock.side_rows(length, side)
    letters = book.letters
    ways = []
    for k in range(stock.many(length)):
        ways.append({(a, at): number for a in range(letters) for at, number in steps[k * letters + a].items()})
    found = [stock.spread(length, row) for row in kernel_rows(stock.prime, ways)]
    return dense_rows(words_many(letters, length), found)
