"""What is lost when rules get lower parts, and what tells it at three letters."""

from ruleshadows.longs import long_many, sparse_rules
from ruleshadows.longstock import LongStock
from ruleshadows.lowered import check_lowered
from ruleshadows.reststock import RestStock
from ruleshadows.solving import dense, put, reduced
from ruleshadows.threes import three_ways
from ruleshadows.upto import check_up_to


def loss(lowered, length):
    """How many words fewer are kept than the book has rests up to this length."""
    check_up_to(lowered, length, "length")
    stock, rests = LongStock(lowered), RestStock(lowered.book)
    stock.reach(length)
    return sum([rests.many(k) for k in range(length + 1)]) - len(stock.kept)


def first_loss(lowered, most):
    """The least length up to most in which something is lost; None."""
    check_up_to(lowered, most, "most")
    # Without rules nothing is lost, and there may be many words.
    if not lowered.book.rules:
        return None
    stock, rests = LongStock(lowered), RestStock(lowered.book)
    total = 0
    for length in range(most + 1):
        stock.reach(length)
        total += rests.many(length)
        if len(stock.kept) < total:
            return length
    return None


def defects(lowered):
    """For each row of common_room(book, 3) how its two ways, lower parts put in, differ: long rests of length 2."""
    check_lowered(lowered)
    book = lowered.book
    size = long_many(book.letters, 2)
    pivots = {min(list(row)): row for row in sparse_rules(lowered)}
    found = []
    for rules_ahead, rules_behind in three_ways(book):
        row = {}
        for i, letter, number in rules_ahead:
            _put_lower(lowered, row, i, [c * book.letters + letter for c in range(book.letters)], letter, number)
        for i, letter, number in rules_behind:
            _put_lower(lowered, row, i, [letter * book.letters + c for c in range(book.letters)], letter, -number)
        found.append(dense(size, reduced(book.prime, pivots, row)))
    return tuple(found)


def _put_lower(lowered, row, index, spots, letter, times):
    """Changes the long row: so many times the lower part of a rule beside a letter, its words' places told."""
    prime, letters = lowered.book.prime, lowered.book.letters
    for c, number in enumerate(lowered.sums[index]):
        put(prime, row, spots[c], times * number)
    put(prime, row, letters * letters + letter, times * lowered.numbers[index])
