"""Rule books turned by a table that keeps them, and with a letter more that passes all others."""

from ruleshadows.books import Rules, check_book
from ruleshadows.checks import check_letters, is_table
from ruleshadows.errors import BadTable
from ruleshadows.pairs import rules_among
from ruleshadows.solving import dense, rank, reduced, room_of, sparse
from ruleshadows.tables import table_undone
from ruleshadows.words import row_led


def keeps(book, thing):
    """Whether any value is a letter table that another one undoes and that leads all rules to rules."""
    check_book(book)
    prime, letters = book.prime, book.letters
    if not is_table(thing, letters) or rank(prime, [sparse(prime, row) for row in thing]) < letters:
        return False
    rules = room_of(prime, [sparse(prime, rule) for rule in book.rules])
    led = [row_led(prime, letters, 2, rule, thing) for rule in book.rules]
    return not any([reduced(prime, rules, sparse(prime, row)) for row in led])


def _check_keeps(book, table):
    if not keeps(book, table):
        raise BadTable("a letter table that keeps the book is asked")


def turned_book(book, table):
    """The rules are the rows that become rules when the second letter of each word is led."""
    _check_keeps(book, table)
    letters = book.letters
    back = table_undone(book.prime, table)
    rows = []
    for rule in book.rules:
        rows.append([
            sum([rule[a * letters + b] * back[b][c] for b in range(letters)])
            for a in range(letters)
            for c in range(letters)
        ])
    return Rules(book.prime, letters, rows)


def passed_book(book, table):
    """One letter x more, behind the others: xv less v, led, followed by x is a rule for each letter v."""
    _check_keeps(book, table)
    letters, more = book.letters, book.letters + 1
    check_letters(more)
    rows = rules_among(book, more, 0)
    for v in range(letters):
        row = {u * more + letters: -table[v][u] for u in range(letters)}
        row[letters * more + v] = 1
        rows.append(dense(more * more, row))
    return Rules(book.prime, more, rows)
