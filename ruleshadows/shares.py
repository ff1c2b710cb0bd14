"""Rule books of some letters of others, and two books that share some letters."""

from ruleshadows.books import Rules, check_book
from ruleshadows.checks import check_between, check_letters, is_number
from ruleshadows.errors import BadNumber, NotAlike
from ruleshadows.pairs import check_primes, rules_alone, rules_among


def _check_places(book, places):
    """Raises BadBook(None), BadNumber("place") unless places are an ascending tuple of letters of the book."""
    check_book(book)
    if not isinstance(places, tuple) or not places:
        raise BadNumber("place")
    last = -1
    for letter in places:
        if not is_number(letter) or not last < letter < book.letters:
            raise BadNumber("place")
        last = letter


def kept_letters(book, places):
    """The rule book of these letters alone, with the rules that have no others."""
    _check_places(book, places)
    return Rules(book.prime, len(places), rules_alone(book, places))


def left_out(book, places):
    """The rule book of these letters alone, with all rules, words that have others being left out of them."""
    _check_places(book, places)
    rows = [[rule[a * book.letters + b] for a in places for b in places] for rule in book.rules]
    return Rules(book.prime, len(places), rows)


def shared_sides(one, other, many):
    """The rules of both, the last letters of one, so many, being the first ones of other."""
    check_primes(one, other)
    check_between(many, 1, min(one.letters, other.letters), "many")
    letters = one.letters + other.letters - many
    check_letters(letters)
    start = one.letters - many
    if kept_letters(one, tuple(range(start, one.letters))) != kept_letters(other, tuple(range(many))):
        raise NotAlike("books that are alike in the letters they share are asked")
    return Rules(one.prime, letters, rules_among(one, letters, 0) + rules_among(other, letters, start))
