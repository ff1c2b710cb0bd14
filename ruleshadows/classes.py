"""Rule books that can be led to one another by tables of letters."""

from ruleshadows.books import Rules, book_led, check_book
from ruleshadows.checks import check_between, check_prime
from ruleshadows.errors import TooMany
from ruleshadows.solving import rank, sparse

MOST_TABLES = 700
MOST_PRIME = 5


def _all_rows(prime, size):
    """The ascending list of all rows of this size."""
    rows = [()]
    for _ in range(size):
        rows = [row + (number,) for row in rows for number in range(prime)]
    return rows


def _led_rules(book):
    """A dict with the rules of all books that this one is led to as its keys."""
    check_book(book)
    prime, letters = book.prime, book.letters
    many = 1
    for _ in range(letters * letters):
        many *= prime
        if many > MOST_TABLES:
            raise TooMany(MOST_TABLES)
    found = {}
    for row in _all_rows(prime, letters * letters):
        table = [row[a * letters:(a + 1) * letters] for a in range(letters)]
        if rank(prime, [sparse(prime, line) for line in table]) == letters:
            found[book_led(book, table).rules] = True
    return found


def least_led(book):
    """The least rules of all books that this one is led to."""
    return min(list(_led_rules(book)))


def led_many(book):
    """How many unlike books this one is led to."""
    return len(_led_rules(book))


def two_classes(prime, many):
    """The ascending list of the classes of books of two letters with so many rules: least rules, number of books."""
    check_prime(prime)
    check_between(many, 0, 4, "many")
    if prime > MOST_PRIME:
        raise TooMany(MOST_PRIME)
    known = {}
    found = []
    for rows in _tidy_lists(prime, 4, many):
        if rows not in known:
            led = _led_rules(Rules(prime, 2, rows))
            for other in led:
                known[other] = True
            found.append((min(list(led)), len(led)))
    return sorted(found)


def _tidy_lists(prime, size, many):
    """All tidy lists of so many rows of this size, as tuples."""
    if many == 0:
        return [()]
    if many > size:
        return []
    # The first column is 0 in all rows, or it is where the first row begins, and nothing else is there.
    found = [tuple([(0,) + row for row in rows]) for rows in _tidy_lists(prime, size - 1, many)]
    for rows in _tidy_lists(prime, size - 1, many - 1):
        firsts = [row.index(1) for row in rows]
        for behind in _all_rows(prime, size - 1):
            if not any([behind[first] for first in firsts]):
                found.append(((1,) + behind,) + tuple([(0,) + row for row in rows]))
    return found
