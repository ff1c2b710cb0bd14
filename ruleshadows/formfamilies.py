"""Books with the one rule of a square, and two families of sums of words."""

from ruleshadows.books import Rules
from ruleshadows.checks import check_letters, check_prime, is_number, table_letters, words_many
from ruleshadows.errors import BadNumber
from ruleshadows.words import spelled, spot_of


def square_book(prime, square):
    """The rule book with the one rule that has square[a][b] at ab."""
    check_prime(prime)
    letters = table_letters(square)
    return Rules(prime, letters, [[number for row in square for number in row]])


def signed_sum(prime, letters):
    """The row of the words that have all letters once: 1, or -1 if an odd number of their pairs are turned."""
    check_prime(prime)
    check_letters(letters)
    many = words_many(letters, letters)
    return tuple([_sign(spelled(letters, letters, spot)) % prime for spot in range(many)])


def _sign(word):
    if len(set(word)) < len(word):
        return 0
    turned = [1 for k, letter in enumerate(word) for other in word[:k] if other > letter]
    return -1 if len(turned) & 1 else 1


def ring_sum(prime, one, other, third):
    """The row with one at 012 and its turns, other at 021 and its turns, third at 000, 111 and 222."""
    check_prime(prime)
    for number, part in ((one, "one"), (other, "other"), (third, "third")):
        if not is_number(number):
            raise BadNumber(part)
    row = [0] * 27
    for a in range(3):
        b, c = (a + 1) % 3, (a + 2) % 3
        row[spot_of(3, (a, b, c))] = one % prime
        row[spot_of(3, (a, c, b))] = other % prime
        row[spot_of(3, (a, a, a))] = third % prime
    return tuple(row)
