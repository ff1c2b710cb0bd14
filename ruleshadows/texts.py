"""Rule books as texts, and how numbers, rows and lists of rows are written in a line."""

from ruleshadows.books import Rules, check_book
from ruleshadows.checks import MOST_LETTERS, PRIMES
from ruleshadows.errors import BadText

DIGITS = "0123456789"
BETWEEN_ROWS = "/"


def row_line(row):
    """The line of the numbers of a row."""
    return " ".join([str(number) for number in row])


def rows_line(rows):
    """The line of rows, a stroke between."""
    return " / ".join([row_line(row) for row in rows])


def number_told(word):
    """The number from 0 to 99 that is written so; None for any other word."""
    if len(word) not in (1, 2) or not all([sign in DIGITS for sign in word]):
        return None
    if len(word) == 2 and word[0] == "0":
        return None
    return int(word)


def row_told(parts):
    """The tuple of the numbers that are written so, one for each part; None if one is no number."""
    row = tuple([number_told(part) for part in parts])
    return None if None in row else row


def rows_told(parts):
    """The tuple of the rows that are written so, with strokes between; None if there is something else."""
    rows = []
    begun = 0
    for at, part in enumerate(parts + [BETWEEN_ROWS]):
        if part == BETWEEN_ROWS:
            row = row_told(parts[begun:at])
            if row is None:
                return None
            rows.append(row)
            begun = at + 1
    return tuple(rows)


def book_text(book):
    """The text of a rule book: its prime and its letters, and a line for each of its rules."""
    check_book(book)
    lines = [f"book {book.prime} {book.letters}"]
    return "\n".join(lines + ["rule " + row_line(rule) for rule in book.rules])


def book_of_text(text):
    """The rule book with this text."""
    if not isinstance(text, str):
        raise BadText(0)
    lines = text.split("\n")
    first = _first_told(lines[0].split(" "))
    if first is None:
        raise BadText(0)
    prime, letters = first
    rules = []
    for at in range(1, len(lines)):
        row = _rule_told(lines[at].split(" "))
        if row is None or not _goes_on(prime, letters, rules, row):
            raise BadText(at)
        rules.append(row)
    return Rules(prime, letters, rules)


def _first_told(parts):
    """The prime and the letters that the first line tells; None."""
    row = row_told(parts[1:])
    if parts[0] != "book" or row is None or len(row) != 2:
        return None
    if row[0] not in PRIMES or not 1 <= row[1] <= MOST_LETTERS:
        return None
    return row


def _rule_told(parts):
    return row_told(parts[1:]) if parts[0] == "rule" else None


def _goes_on(prime, letters, rules, row):
    """Whether the rules, a tidy list, are one with this row behind them."""
    if len(row) != letters * letters or not any(row) or not all([number < prime for number in row]):
        return False
    place = [at for at, number in enumerate(row) if number][0]
    ahead = rules[-1].index(1) if rules else -1
    return row[place] == 1 and place > ahead and not any([rule[place] for rule in rules])
