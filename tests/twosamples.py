"""Books of two letters with one rule."""

import itertools

from ruleshadows.books import Rules

WRONG = ("BadBook", "rule")


def all_twos(prime):
    """Each of them, by the tidy list of its rule."""
    found = []
    for row in itertools.product(range(prime), repeat=4):
        if any(row) and next(x for x in row if x) == 1:
            found.append(Rules(prime, 2, [row]))
    return found


def some_twos():
    """All over 2 and 3, and each seventh or so over greater primes."""
    found = all_twos(2) + all_twos(3) + all_twos(5)[::7] + all_twos(7)[::23]
    return found + [Rules(97, 2, [row]) for row in ((0, 1, 96, 0), (1, 5, 0, 3), (1, 2, 2, 4), (0, 1, 22, 0),
                                                    (1, 0, 0, 1))]


def square_of(book):
    rule = book.rules[0]
    return (rule[:2], rule[2:])


def worth(prime, square):
    return (square[0][0] * square[1][1] - square[0][1] * square[1][0]) % prime


def no_twos():
    """Rule books of other letters, or with other rules."""
    return [Rules(3, 2, []), Rules(3, 2, [[1, 0, 0, 0], [0, 1, 0, 0]]), Rules(3, 1, [[1]]), Rules(3, 1, []),
            Rules(3, 3, [[1] + [0] * 8]), Rules(3, 2, [[1, 0, 0, 0], [0, 1, 0, 0], [0, 0, 1, 0]])]
