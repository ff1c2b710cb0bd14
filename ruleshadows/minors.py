"""Minors: what rest words, and common rows, are led to by the letters of a keeping book; determinants."""

from ruleshadows.cellstock import CellStock
from ruleshadows.checks import check_from, words_many
from ruleshadows.commonstock import CommonStock
from ruleshadows.keeping import check_keeping, keeping_book, plain_cells
from ruleshadows.reststock import RestStock
from ruleshadows.solving import dense, mixed


def _check_minors(one, other, many):
    """The size of rows of the keeping book; raises what is asked of minors."""
    check_keeping(one, other)
    check_from(many, 0, "many")
    return words_many(one.letters * other.letters, many)


def rest_minors(one, other, many):
    """For each rest word of one, and each of other, the row by which the one is led to the other."""
    size = _check_minors(one, other, many)
    cells = CellStock(keeping_book(one, other), 1, plain_cells(one, other))
    others = RestStock(other)
    return tuple([
        tuple([dense(size, cells.spread(many, part)) for part in cells.beside_rows(others, many, {spot: 1})])
        for spot in RestStock(one).spots(many)
    ])


def common_minors(one, other, many):
    """For each common row of one, and each of other, the row by which the one is led to the other."""
    size = _check_minors(one, other, many)
    stock = RestStock(keeping_book(one, other))
    rests = stock.word_rows(many)
    heads = [min(list(row)) for row in CommonStock(other).full_rows(many)]
    found = []
    for row in CommonStock(one).full_rows(many):
        line = []
        for head in heads:
            led = {_pair_spot(one.letters, other.letters, many, spot, head): row[spot] for spot in row}
            line.append(dense(size, stock.spread(many, mixed(one.prime, led, rests))))
        found.append(tuple(line))
    return tuple(found)


def _pair_spot(n, m, length, spot, head):
    """The spot of the word of pairs of the letters of two words with these spots."""
    found, times = 0, 1
    # One letter beside one letter makes one word of each length, with the spot 0.
    for _ in range(length if n * m > 1 else 0):
        found += (spot % n * m + head % m) * times
        spot, head, times = spot // n, head // m, times * n * m
    return found


def determinant(book, many):
    """The only one of the common minors, if the common room has just one row; None."""
    _check_minors(book, book, many)
    if CommonStock(book).many(many) != 1:
        return None
    return common_minors(book, book, many)[0][0]
