"""Words of the letters of a keeping book split through a book in the middle, and what leaves them as they are."""

from ruleshadows.checks import check_from, check_row, words_many
from ruleshadows.keeping import check_keeping, check_three, keeping_book
from ruleshadows.reststock import RestStock
from ruleshadows.solving import put, sparse


def keeping_split(one, middle, other, many, row):
    """The pairs of a word of keeping_book(one, middle) and one of keeping_book(middle, other) that the row makes."""
    check_three(one, middle, other)
    check_keeping(one, other)
    check_keeping(one, middle)
    check_keeping(middle, other)
    check_from(many, 0, "many")
    size = words_many(one.letters * other.letters, many)
    height = words_many(one.letters * middle.letters, many)
    width = words_many(middle.letters * other.letters, many)
    check_row(row, size)
    firsts, seconds = RestStock(keeping_book(one, middle)), RestStock(keeping_book(middle, other))
    found = [[0] * width for _ in range(height)]
    halves = _split_rows(firsts, seconds, (middle.letters, other.letters), many, sparse(one.prime, row))
    ahead, behind = firsts.spots(many), seconds.spots(many)
    for (i, k), number in halves.items():
        found[ahead[i]][behind[k]] = number
    return tuple([tuple(line) for line in found])


def _split_rows(firsts, seconds, letters, many, row):
    """The split of a row: a dict from pairs of numbers of rest words; letters are those of middle and of other."""
    inner, outer = letters
    pairs = firsts.letters // inner * outer
    size = words_many(pairs, many)
    # By what is left of the word, and the rest words of both halves so far.
    parts = {spot: {(0, 0): number} for spot, number in row.items()}
    for k in range(many):
        size = size // pairs
        ahead, behind = firsts.right_rows(k), seconds.right_rows(k)
        fresh = {}
        for spot, part in parts.items():
            a, c = spot // size // outer, spot // size % outer
            total = fresh.setdefault(spot % size, {})
            for (start, end), number in part.items():
                for e in range(inner):
                    one = ahead[start * firsts.letters + a * inner + e]
                    other = behind[end * seconds.letters + e * outer + c]
                    _put_pairs(firsts.prime, total, number, one, other)
        parts = fresh
    return parts.get(0, {})


def _put_pairs(prime, total, times, one, other):
    """Changes total: so many times each pair of a number of one and a number of other is added."""
    for at, number in one.items():
        for place, more in other.items():
            put(prime, total, (at, place), times * number * more)


def plain_number(book, many, row):
    """The sum of the numbers of a row of keeping_book(book, book) at the words of letters (a, a) alone."""
    check_keeping(book, book)
    check_from(many, 0, "many")
    pairs = book.letters * book.letters
    check_row(row, words_many(pairs, many))
    spots = [0]
    for _ in range(many):
        spots = [spot * pairs + a * book.letters + a for spot in spots for a in range(book.letters)]
    return sum([row[spot] for spot in spots]) % book.prime
