"""Pairs of rule books over one prime for the tests of what is made of two."""

from ruleshadows.books import Rules, exchange_book, free_book, minus_book, shut_book
from ruleshadows.rests import count
from samples import bent_book, chance_book, heart_book, told_book


def few_pairs():
    """Pairs of books with unlike numbers of letters, four together at the most; fitting and not."""
    return [
        (free_book(3, 1), free_book(3, 1)), (free_book(2, 1), shut_book(2, 1)), (shut_book(5, 1), shut_book(5, 1)),
        (exchange_book(5, 2), minus_book(5, 2)), (bent_book(3), free_book(3, 1)), (shut_book(2, 1), bent_book(2)),
        (bent_book(5), told_book(5, 2, [{(0, 0): 1}])), (chance_book(2, 2, 2, 3), chance_book(2, 2, 3, 4)),
        (chance_book(3, 2, 1, 5), exchange_book(3, 2)), (chance_book(97, 2, 2, 6), chance_book(97, 2, 1, 7)),
        (free_book(3, 2), shut_book(3, 2)), (heart_book(3, 1, 1), shut_book(3, 1)),
        (free_book(2, 1), chance_book(2, 3, 4, 8)), (chance_book(5, 3, 5, 9), free_book(5, 1)),
    ]


def counts_of(book, most):
    return [count(book, k) for k in range(most + 1)]


def undone_counts(counts):
    """The numbers u with u[0] = 1 for which the sum of u[i] * counts[d - i] is 0 for each d from 1 on."""
    found = [1]
    for length in range(1, len(counts)):
        found.append(-sum(found[i] * counts[length - i] for i in range(length)))
    return found


def led_from(book, letters, names):
    """The rules of the book as dicts, its letters named anew."""
    return [{(names[at // book.letters], names[at % book.letters]): number
             for at, number in enumerate(rule) if number} for rule in book.rules]


def short(letters):
    """A length for books made of two: small enough for many of them."""
    return {1: 6, 2: 6, 3: 5, 4: 4, 5: 4, 6: 3}.get(letters, 3)


def all_books(prime, letters):
    """Each rule book there is: of one letter, and some of two."""
    if letters == 1:
        return [free_book(prime, 1), shut_book(prime, 1)]
    rows = [[], [[1, 0, 0, 0]], [[0, 1, -1, 0]], [[0, 1, 0, 0], [0, 0, 0, 1]], [[1, 0, 0, 1], [0, 1, 1, 0]],
            [[1, 0, 0, 0], [0, 0, 1, -1]], [[1, 0, 0, 0], [0, 1, 0, 0], [0, 0, 1, 0]]]
    return [Rules(prime, 2, some) for some in rows] + [shut_book(prime, 2)]
