"""Rule books: a prime, some letters, and rules of two letters."""

from ruleshadows.checks import check_letters, check_prime, check_rows, is_table, table_letters
from ruleshadows.errors import BadBook, BadTable
from ruleshadows.solving import rank, sparse, tidied
from ruleshadows.words import row_led


class Rules:
    """A rule book: its rules are all sums of multiples of the rows."""

    def __init__(self, prime, letters, rows):
        check_prime(prime)
        check_letters(letters)
        check_rows(rows, letters * letters)
        self.prime = prime
        self.letters = letters
        self.rules = tuple(tidied(prime, letters * letters, rows))

    def __eq__(self, other):
        return (
            isinstance(other, Rules)
            and self.prime == other.prime
            and self.letters == other.letters
            and self.rules == other.rules
        )


def check_book(book):
    """Raises BadBook(None) for what is no rule book."""
    if not isinstance(book, Rules):
        raise BadBook(None)


def check_alike(one, other):
    """Raises BadBook(None), BadBook("prime") or BadBook("letters") unless these are alike so far."""
    check_book(one)
    check_book(other)
    if one.prime != other.prime:
        raise BadBook("prime")
    if one.letters != other.letters:
        raise BadBook("letters")


def check_undoable(prime, letters, table):
    """Raises BadTable unless this is a letter table that another one undoes."""
    if not is_table(table, letters) or rank(prime, [sparse(prime, row) for row in table]) < letters:
        raise BadTable("a letter table that another one undoes is asked")


def free_book(prime, letters):
    """The rule book without rules."""
    return Rules(prime, letters, [])


def shut_book(prime, letters):
    """The rule book in which all words of two letters are rules."""
    check_prime(prime)
    check_letters(letters)
    size = letters * letters
    return Rules(prime, letters, [_marked_row(size, {at: 1}) for at in range(size)])


def exchange_book(prime, letters):
    """The rule book with ab less ba for all letters a, b."""
    check_prime(prime)
    check_letters(letters)
    return _weighed(prime, [[int(a < b) for a in range(letters)] for b in range(letters)])


def minus_book(prime, letters):
    """The rule book with aa, and ab plus ba, for all letters a, b."""
    check_prime(prime)
    check_letters(letters)
    return _weighed(prime, [[int(a == b) - int(a < b) for a in range(letters)] for b in range(letters)])


def weighed_book(prime, weights):
    """The rule book with ba less a weight times ab for all a below b, and aa where the weight is not 0."""
    check_prime(prime)
    letters = table_letters(weights)
    if any([weights[b][a] % prime == 0 for b in range(letters) for a in range(b)]):
        raise BadTable("the prime divides a number below the diagonal")
    return _weighed(prime, weights)


def _weighed(prime, weights):
    letters = len(weights)
    rows = []
    for b in range(letters):
        for a in range(b):
            rows.append(_marked_row(letters * letters, {b * letters + a: 1, a * letters + b: -weights[b][a]}))
        if weights[b][b] % prime:
            rows.append(_marked_row(letters * letters, {b * letters + b: 1}))
    return Rules(prime, letters, rows)


def _marked_row(size, numbers):
    return [numbers.get(at, 0) for at in range(size)]


def book_led(book, table):
    """The rule book of all rules, their letters led by the table."""
    check_book(book)
    check_undoable(book.prime, book.letters, table)
    return Rules(book.prime, book.letters, [row_led(book.prime, book.letters, 2, row, table) for row in book.rules])


def read_back(book):
    """The rule book with all words of the rules reversed."""
    check_book(book)
    letters = book.letters
    turned = [[row[b * letters + a] for a in range(letters) for b in range(letters)] for row in book.rules]
    return Rules(book.prime, letters, turned)
