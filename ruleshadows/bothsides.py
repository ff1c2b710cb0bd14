"""The book of the cells that keep a book and its shadow, and the determinants of one rule of two letters."""

from ruleshadows.books import Rules
from ruleshadows.errors import BadBook
from ruleshadows.keeping import keeping_book
from ruleshadows.rests import rest
from ruleshadows.solving import dense, put
from ruleshadows.tables import joined, table_undone
from ruleshadows.twos import check_two, rule_square, square_worth


def both_book(book):
    """The rules of the keeping book of the book and itself, and these with each pair of letters turned over."""
    keeping = keeping_book(book, book)
    n, pairs = book.letters, book.letters * book.letters
    turned = [c * n + a for a in range(n) for c in range(n)]
    rows = [[rule[x * pairs + y] for x in turned for y in turned] for rule in keeping.rules]
    return Rules(book.prime, pairs, list(keeping.rules) + rows)


def two_determinants(book):
    """The rests by which the one rule of two letters is multiplied when led from one side, and from the other."""
    check_two(book)
    rule = book.rules[0]
    # The rule has a 1 at the word of these letters: what is made of it there is the determinant itself.
    first, second = rule.index(1) // 2, rule.index(1) % 2
    ahead, behind = {}, {}
    for at, number in enumerate(rule):
        a, b = at // 2, at % 2
        put(book.prime, ahead, (a * 2 + first) * 4 + b * 2 + second, number)
        put(book.prime, behind, (first * 2 + a) * 4 + second * 2 + b, number)
    both = both_book(book)
    return (rest(both, 2, dense(16, ahead)), rest(both, 2, dense(16, behind)))


def passing_table(book):
    """The table of the letters of both_book that leads those ahead of the one determinant to those behind the other."""
    check_two(book)
    square = rule_square(book)
    if square_worth(book.prime, square) == 0:
        raise BadBook("rule")
    led = joined(book.prime, square, square)
    back = table_undone(book.prime, led)
    return tuple([
        tuple([led[a][b] * back[d][c] % book.prime for b in range(2) for d in range(2)])
        for a in range(2)
        for c in range(2)
    ])
