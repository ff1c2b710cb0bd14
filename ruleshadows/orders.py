"""Orders of the letters: heads of rules and rows, and plain words.

Letters are renamed by their places in the order, so that the order becomes the ascending one; what comes out is
named back.
"""

from ruleshadows.books import Rules, check_book
from ruleshadows.checks import (
    check_from,
    check_letters,
    check_prime,
    check_row,
    is_list,
    is_number,
    is_word,
    length_many,
    words_many,
)
from ruleshadows.errors import BadOrder, BadWord
from ruleshadows.reststock import RestStock
from ruleshadows.words import spelled, spot_of


def is_order(letters, order):
    """Whether any value is a list that has each of so many letters once."""
    check_letters(letters)
    if not is_list(order) or not all([is_number(letter) for letter in order]):
        return False
    return sorted(order) == list(range(letters))


def check_order(book, order):
    """Raises BadBook(None), then BadOrder."""
    check_book(book)
    if not is_order(book.letters, order):
        raise BadOrder("a list of all letters is asked")


def spots_by(order, length):
    """The spots of all words of this length, the words ascending by the order."""
    letters = len(order)
    spots = [0]
    for _ in range(length):
        spots = [spot * letters + letter for spot in spots for letter in order]
    return spots


def book_by(book, order):
    """The rule book with each letter renamed by its place in the order."""
    spots = spots_by(order, 2)
    return Rules(book.prime, book.letters, [[row[spot] for spot in spots] for row in book.rules])


def row_back(spots, numbers):
    """A row of words renamed by an order, whose spots are told, as one of words by their own names."""
    row = [0] * len(numbers)
    for at, number in enumerate(numbers):
        row[spots[at]] = number
    return tuple(row)


def head_of(book, order, length, row):
    """The first word by the order whose number is not 0; None if there is none."""
    check_order(book, order)
    size = length_many(book.letters, length)
    check_row(row, size)
    for spot in spots_by(order, length):
        if row[spot] % book.prime:
            return spelled(book.letters, length, spot)
    return None


def head_rules(book, order):
    """The ascending list of pairs of a head and the one rule with 1 at it and 0 at all others."""
    check_order(book, order)
    spots = spots_by(order, 2)
    found = []
    for row in book_by(book, order).rules:
        found.append((spelled(book.letters, 2, spots[row.index(1)]), row_back(spots, row)))
    return sorted(found)


def heads(book, order):
    """The ascending list of the heads of all rules."""
    return [head for head, row in head_rules(book, order)]


def head_flags(book, order):
    """For each word of two letters, by its spot, whether it is a head."""
    flags = [False] * (book.letters * book.letters)
    for head in heads(book, order):
        flags[spot_of(book.letters, head)] = True
    return flags


def plain_spots(book, order, length):
    """The ascending list of the spots of all plain words."""
    letters = book.letters
    flags = head_flags(book, order)
    spots = [0]
    for index in range(length):
        spots = [
            spot * letters + letter
            for spot in spots
            for letter in range(letters)
            if index == 0 or not flags[spot % letters * letters + letter]
        ]
    return spots


def plain_words(book, order, length):
    """The ascending list of the words that have a head at no place."""
    check_order(book, order)
    check_from(length, 0, "length")
    words_many(book.letters, length)
    return [spelled(book.letters, length, spot) for spot in plain_spots(book, order, length)]


def head_words(book, order, length):
    """The ascending list of the heads of all that the rules at all places make nothing."""
    check_order(book, order)
    size = length_many(book.letters, length)
    spots = spots_by(order, length)
    left = {spots[at]: True for at in RestStock(book_by(book, order)).spots(length)}
    return [spelled(book.letters, length, spot) for spot in range(size) if spot not in left]


def word_book(prime, letters, some):
    """The rule book whose rules are these words."""
    check_prime(prime)
    check_letters(letters)
    if not is_list(some) or not all([is_word(word, letters) and len(word) == 2 for word in some]):
        raise BadWord("a list of words of two letters is asked")
    size = letters * letters
    spots = [spot_of(letters, word) for word in some]
    return Rules(prime, letters, [[int(at == spot) for at in range(size)] for spot in spots])
