"""What is asked of two rule books of which something is made, and rules put among more letters or fewer."""

from ruleshadows.books import check_book
from ruleshadows.checks import check_letters
from ruleshadows.errors import BadBook
from ruleshadows.solving import dense, room_of, tidy_rows


def check_primes(one, other):
    """Raises BadBook(None), BadBook("prime") unless these are rule books over one prime."""
    check_book(one)
    check_book(other)
    if one.prime != other.prime:
        raise BadBook("prime")


def check_joined(one, other):
    """check_primes; then BadNumber("letters") if their letters together are more than 9."""
    check_primes(one, other)
    check_letters(one.letters + other.letters)


def rules_among(book, letters, start):
    """The rules of the book as rows for so many letters, its own first letter being the one with the number start."""
    own = book.letters
    rows = []
    for rule in book.rules:
        row = {}
        for at, number in enumerate(rule):
            row[(start + at // own) * letters + start + at % own] = number
        rows.append(dense(letters * letters, row))
    return rows


def rules_alone(book, places):
    """The rules with words of these letters alone, as rows for just these letters."""
    numbers = {letter: k for k, letter in enumerate(places)}
    letters, few = book.letters, len(places)
    rows = []
    for rule in book.rules:
        row = {}
        for at, number in enumerate(rule):
            if number:
                a, b = at // letters, at % letters
                inside = a in numbers and b in numbers
                # Words with other letters stand ahead: what begins behind them has none of these.
                row[(1, numbers[a] * few + numbers[b]) if inside else (0, at)] = number
        rows.append(row)
    found = [row for row in tidy_rows(room_of(book.prime, rows)) if min(list(row))[0] == 1]
    return [dense(few * few, {place[1]: row[place] for place in row}) for row in found]
