"""Families of books with lower parts: brackets of letters, forms and twists."""

from ruleshadows.books import exchange_book, minus_book
from ruleshadows.checks import check_letters, check_prime, is_rows, table_letters
from ruleshadows.errors import BadRow
from ruleshadows.lowered import Lowered

# The rule of the letters a and b, a not above b, begins with the word ab: so the rules stand as such pairs do.


def bracket_lowered(prime, letters, rows):
    """Of exchange_book: ab less ba is the row of a, b, for all letters a below b."""
    check_prime(prime)
    check_letters(letters)
    if not is_rows(rows, letters) or len(rows) != letters * (letters - 1) // 2:
        raise BadRow("a list with a row of letters for each pair of letters is asked")
    return Lowered(exchange_book(prime, letters), rows, [0] * len(rows))


def form_lowered(prime, form):
    """Of minus_book: ab plus ba is form[a][b] for all letters a below b, aa is form[a][a]."""
    check_prime(prime)
    letters = table_letters(form)
    numbers = [form[a][b] for a in range(letters) for b in range(a, letters)]
    return _numbered(minus_book(prime, letters), numbers)


def twist_lowered(prime, form):
    """Of exchange_book: ab less ba is form[a][b] for all letters a below b."""
    check_prime(prime)
    letters = table_letters(form)
    numbers = [form[a][b] for a in range(letters) for b in range(a + 1, letters)]
    return _numbered(exchange_book(prime, letters), numbers)


def _numbered(book, numbers):
    """The book with these numbers and without sums of letters."""
    return Lowered(book, [[0] * book.letters for _ in numbers], numbers)
