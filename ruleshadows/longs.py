"""Long rows: numbers for all words up to a length, the longest words first."""

from ruleshadows.books import Rules
from ruleshadows.checks import (
    MOST_WORDS,
    check_between,
    check_from,
    check_letters,
    check_prime,
    check_row,
    check_rows,
    is_list,
    is_row,
    is_word,
)
from ruleshadows.errors import BadLower, BadRow, BadWord, TooMany
from ruleshadows.lowered import Lowered, check_lowered
from ruleshadows.solving import dense, room_of, sparse, tidy_rows
from ruleshadows.words import spelled, spot_of


def long_many(letters, length):
    """How many words up to this length there are; TooMany(1000) if above 1000."""
    total, many = 1, 1
    for _ in range(length):
        many *= letters
        total += many
        if total > MOST_WORDS:
            raise TooMany(MOST_WORDS)
    return total


def long_starts(letters, length):
    """For each length up to this one the place at which its words begin."""
    sizes = [1]
    for _ in range(length):
        sizes.append(sizes[-1] * letters)
    starts = [0]
    for size in sizes[:0:-1]:
        starts.append(starts[-1] + size)
    return starts[::-1]


def long_size(letters, length):
    """How many words up to this length there are."""
    check_letters(letters)
    check_from(length, 0, "length")
    return long_many(letters, length)


def long_place(letters, length, word):
    """The place of the word in long rows of this length."""
    long_size(letters, length)
    if not is_word(word, letters) or len(word) > length:
        raise BadWord("a word of at most this length is asked")
    return long_starts(letters, length)[len(word)] + spot_of(letters, word)


def long_word(letters, length, place):
    """The word at this place of long rows of this length."""
    size = long_size(letters, length)
    check_between(place, 0, size - 1, "place")
    starts = long_starts(letters, length)
    found = [shorter for shorter in range(length + 1) if starts[shorter] <= place][0]
    return spelled(letters, found, place - starts[found])


def long_cut(prime, letters, length, long):
    """The rows of the lengths 0, 1 .. of which the long row is made."""
    check_prime(prime)
    size = long_size(letters, length)
    check_row(long, size)
    starts = long_starts(letters, length)
    numbers = [number % prime for number in long]
    ends = [size] + starts[:-1]
    return tuple([tuple(numbers[start:end]) for start, end in zip(starts, ends)])


def long_joined(prime, letters, rows):
    """The long row that is made of rows of the lengths 0, 1 .."""
    check_prime(prime)
    check_letters(letters)
    if not is_list(rows) or not rows:
        raise BadRow("a list of one or more rows is asked")
    size = 1
    for row in rows:
        if not is_row(row, size):
            raise BadRow("rows of the lengths 0, 1 and so on are asked")
        size *= letters
    long_many(letters, len(rows) - 1)
    return tuple([number % prime for row in list(rows)[::-1] for number in row])


def sparse_rules(lowered):
    """The lowered rules as long rows of length 2 without their zeros."""
    letters, prime = lowered.book.letters, lowered.book.prime
    found = []
    for rule, total, number in zip(lowered.book.rules, lowered.sums, lowered.numbers):
        lower = [-part for part in total] + [-number]
        found.append(sparse(prime, list(rule) + lower))
    return found


def long_rules(lowered):
    """The lowered rules as long rows of length 2, in the order of the rules."""
    check_lowered(lowered)
    size = long_many(lowered.book.letters, 2)
    return tuple([dense(size, row) for row in sparse_rules(lowered)])


def lowered_from(prime, letters, longs):
    """The book with lower parts whose lowered rules have the same sums of multiples as these long rows."""
    check_prime(prime)
    check_letters(letters)
    check_rows(longs, long_many(letters, 2))
    return lowered_of(prime, letters, [sparse(prime, row) for row in longs])


def lowered_of(prime, letters, rows):
    """The same for long rows without their zeros."""
    pairs = letters * letters
    size = pairs + letters + 1
    found = [dense(size, row) for row in tidy_rows(room_of(prime, rows))]
    if any([not any(row[:pairs]) for row in found]):
        raise BadLower("a sum of multiples has no words of two letters")
    book = Rules(prime, letters, [row[:pairs] for row in found])
    sums = [[-number for number in row[pairs:-1]] for row in found]
    return Lowered(book, sums, [-row[-1] for row in found])
