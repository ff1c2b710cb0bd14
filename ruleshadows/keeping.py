"""Cells from the letters of one book to those of another, and the book of all cells that keep them."""

from ruleshadows.books import check_book
from ruleshadows.cellstock import CellStock
from ruleshadows.checks import check_from, check_letters, check_row, is_list, is_rows, words_many
from ruleshadows.errors import BadBook, BadCells
from ruleshadows.pairs import check_primes
from ruleshadows.products import black_product
from ruleshadows.reststock import RestStock
from ruleshadows.shadows import shadow
from ruleshadows.solving import dense, sparse


def check_three(one, other, third):
    """Raises BadBook(None), BadBook("prime") unless these are rule books over one prime."""
    for book in (one, other, third):
        check_book(book)
    if one.prime != other.prime or one.prime != third.prime:
        raise BadBook("prime")


def check_keeping(one, other):
    """Raises BadBook(None), BadBook("prime"), BadNumber("letters") unless the two have a keeping book."""
    check_primes(one, other)
    check_letters(one.letters * other.letters)


def keeping_book(one, other):
    """The rule book with pairs of letters as letters that all cells which keep one and other come from."""
    check_keeping(one, other)
    return black_product(one, shadow(other))


def plain_cells(one, other):
    """The cells of length 1 in the keeping book that are its letters."""
    check_keeping(one, other)
    n, m = one.letters, other.letters
    return tuple([tuple([dense(n * m, {a * m + c: 1}) for c in range(m)]) for a in range(n)])


def _check_length(third, length):
    check_from(length, 0, "length")
    words_many(third.letters, 2 * length)


def _is_cells(value, one, other, size):
    """Whether any value is a list of rows of this size for each letter of one and each of other."""
    if not is_list(value) or len(value) != one.letters:
        return False
    return all([is_rows(line, size) and len(line) == other.letters for line in value])


def _kept_stock(one, other, third, length, cells):
    """What is known of the cells if they are cells of this length that keep one and other; None."""
    if not _is_cells(cells, one, other, words_many(third.letters, length)):
        return None
    stock = CellStock(third, length, cells)
    return stock if stock.keeping(one, other) else None


def _stock_of(one, other, third, length, cells):
    stock = _kept_stock(one, other, third, length, cells)
    if stock is None:
        raise BadCells("cells that keep both books are asked")
    return stock


def cells_keep(one, other, third, length, cells):
    """Whether any value is cells of this length that keep one and other."""
    check_three(one, other, third)
    _check_length(third, length)
    return _kept_stock(one, other, third, length, cells) is not None


def beside_led(one, other, third, length, cells, many, row):
    """What a row of words of so many letters of one is led to: a row of third for each rest word of other."""
    check_three(one, other, third)
    _check_length(third, length)
    stock = _stock_of(one, other, third, length, cells)
    check_from(many, 0, "many")
    size = words_many(one.letters, many)
    words_many(other.letters, many)
    made = words_many(third.letters, length * many)
    check_row(row, size)
    parts = stock.beside_rows(RestStock(other), many, sparse(one.prime, row))
    return [dense(made, stock.spread(many, part)) for part in parts]


def cells_sent(one, other, third, length, cells, many, row):
    """The rest in third of a row of words of the keeping book with each letter exchanged for its cell."""
    check_three(one, other, third)
    check_letters(one.letters * other.letters)
    _check_length(third, length)
    stock = _stock_of(one, other, third, length, cells)
    check_from(many, 0, "many")
    size = words_many(one.letters * other.letters, many)
    made = words_many(third.letters, length * many)
    check_row(row, size)
    return dense(made, stock.spread(many, stock.sent(many, sparse(one.prime, row))))
