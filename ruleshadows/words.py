"""Words, their spots, and rows of numbers for all words of a length."""

from ruleshadows.checks import (
    MOST_WORDS,
    check_between,
    check_from,
    check_letters,
    check_prime,
    check_row,
    is_list,
    is_row,
    is_table,
    is_word,
    length_many,
    words_many,
)
from ruleshadows.errors import BadRow, BadTable, BadWord, TooMany


def spot_of(letters, word):
    """The number that the letters of the word make as digits, the first one the highest."""
    check_letters(letters)
    if not is_word(word, letters):
        raise BadWord("a tuple of letters is asked")
    words_many(letters, len(word))
    spot = 0
    for letter in word:
        spot = spot * letters + letter
    return spot


def spelled(letters, length, spot):
    """The word of this length with this spot, without checks."""
    if letters == 1:
        return (0,) * length
    turned = []
    for _ in range(length):
        turned.append(spot % letters)
        spot = spot // letters
    return tuple(turned[::-1])


def word_at(letters, length, spot):
    """The word of this length with this spot."""
    check_letters(letters)
    many = length_many(letters, length)
    check_between(spot, 0, many - 1, "spot")
    return spelled(letters, length, spot)


def words(letters, length):
    """The ascending list of all words of this length."""
    check_letters(letters)
    many = length_many(letters, length)
    return [spelled(letters, length, spot) for spot in range(many)]


def beside(prime, one, other):
    """The row of all words of one followed by those of other."""
    check_prime(prime)
    for row in (one, other):
        if not is_list(row) or not row or not is_row(row, len(row)):
            raise BadRow("a list of one or more numbers is asked")
    if len(one) * len(other) > MOST_WORDS:
        raise TooMany(MOST_WORDS)
    return tuple([ahead * behind % prime for ahead in one for behind in other])


def row_led(prime, letters, length, row, table):
    """The row in which each letter of each word is led by the letter table."""
    check_prime(prime)
    check_letters(letters)
    check_from(length, 0, "length")
    size = words_many(letters, length)
    check_row(row, size)
    if not is_table(table, letters):
        raise BadTable("a letter table is asked")
    numbers = [number % prime for number in row]
    # The first letter is led and put behind the others: when each one had its turn, all stand as before.
    for _ in range(length):
        numbers = first_led_behind(prime, numbers, table)
    return tuple(numbers)


def first_led_behind(prime, numbers, table):
    """The row with the first letter of each word led and put behind all others."""
    step = len(numbers) // len(table)
    return [
        sum([numbers[a * step + spot] * table[a][b] for a in range(len(table))]) % prime
        for spot in range(step)
        for b in range(len(table[0]))
    ]
