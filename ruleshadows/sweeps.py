"""Sweeping: words that have heads replaced until only plain ones are left."""

from ruleshadows.checks import check_from, check_row, is_number, is_word, words_many
from ruleshadows.errors import BadNumber, BadWord, NotTidy
from ruleshadows.orders import book_by, check_order, head_rules, row_back, spots_by
from ruleshadows.rests import rest
from ruleshadows.settled import is_tidy
from ruleshadows.words import spot_of


def check_tidy(book, order):
    """Raises BadBook(None), BadOrder, NotTidy."""
    check_order(book, order)
    if not is_tidy(book, order):
        raise NotTidy("a book that is tidy by the order is asked")


def replaced(book, order, word, place, row):
    """The row less so many times the head rule put in at this place of the word that the word has the number 0."""
    check_order(book, order)
    if not is_word(word, book.letters) or len(word) < 2:
        raise BadWord("a word of two letters or more is asked")
    size = words_many(book.letters, len(word))
    rules = {head: rule for head, rule in head_rules(book, order)}
    if not is_number(place) or not 0 <= place <= len(word) - 2 or word[place:place + 2] not in rules:
        raise BadNumber("place")
    check_row(row, size)
    left = [number % book.prime for number in row]
    times = left[spot_of(book.letters, word)]
    for at, number in enumerate(rules[word[place:place + 2]]):
        pair = (at // book.letters, at % book.letters)
        spot = spot_of(book.letters, word[:place] + pair + word[place + 2:])
        left[spot] = (left[spot] - times * number) % book.prime
    return tuple(left)


def swept(book, order, length, row):
    """The row that differs from this one by nothing and has 0 at all words but plain ones."""
    check_tidy(book, order)
    check_from(length, 0, "length")
    size = words_many(book.letters, length)
    check_row(row, size)
    spots = spots_by(order, length)
    left = rest(book_by(book, order), length, [row[spot] for spot in spots])
    return row_back(spots, left)
