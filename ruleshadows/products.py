"""Rule books with pairs of letters as letters, and with words of some length as letters."""

from ruleshadows.books import Rules, check_book
from ruleshadows.checks import check_from, check_letters, check_row, words_many
from ruleshadows.pairs import check_primes
from ruleshadows.reststock import RestStock
from ruleshadows.solving import dense, dense_rows, kernel_rows, sparse


def _check_products(one, other):
    check_primes(one, other)
    check_letters(one.letters * other.letters)


def woven(one, other, row, second):
    """The row with the product of the numbers at vx and wy at the word of the letters (v, w) and (x, y)."""
    _check_products(one, other)
    check_row(row, one.letters * one.letters)
    check_row(second, other.letters * other.letters)
    return dense(len(row) * len(second), _woven(one, other, sparse(one.prime, row), sparse(one.prime, second)))


def _woven(one, other, row, second):
    letters = one.letters * other.letters
    made = {}
    for at, number in row.items():
        v, x = at // one.letters, at % one.letters
        for place, times in second.items():
            w, y = place // other.letters, place % other.letters
            spot = (v * other.letters + w) * letters + x * other.letters + y
            made[spot] = number * times % one.prime
    return made


def _made_of(one, other, pairs):
    """The rule book whose rules are woven of these pairs of rows."""
    letters = one.letters * other.letters
    rows = [_woven(one, other, row, second) for row, second in pairs]
    return Rules(one.prime, letters, dense_rows(letters * letters, rows))


def _rules(book):
    return [sparse(book.prime, rule) for rule in book.rules]


def _words(book):
    return [{at: 1} for at in range(book.letters * book.letters)]


def white_product(one, other):
    """The rules are woven of a rule of one and any row, and of any row and a rule of other."""
    _check_products(one, other)
    pairs = [(rule, word) for rule in _rules(one) for word in _words(other)]
    return _made_of(one, other, pairs + [(word, rule) for word in _words(one) for rule in _rules(other)])


def black_product(one, other):
    """The rules are woven of a rule of one and a rule of other."""
    _check_products(one, other)
    return _made_of(one, other, [(rule, second) for rule in _rules(one) for second in _rules(other)])


def spaced_book(book, step):
    """The rule book of the rest words of this length as letters: what is nothing, written out, is a rule."""
    check_book(book)
    check_from(step, 1, "step")
    words_many(book.letters, step)
    stock = RestStock(book)
    letters = stock.many(step)
    check_letters(letters)
    words_many(book.letters, 2 * step)
    pairs = [stock.product(step, a, step, b) for a in range(letters) for b in range(letters)]
    return Rules(book.prime, letters, dense_rows(letters * letters, kernel_rows(book.prime, pairs)))
