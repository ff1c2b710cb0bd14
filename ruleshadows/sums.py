"""Rule books out of one sum of words, and sums that can be turned round."""

from ruleshadows.books import Rules
from ruleshadows.checks import check_from, check_letters, check_prime, check_row, is_table, words_many
from ruleshadows.errors import BadTable, NotFull
from ruleshadows.solving import rank, reduced, room_of
from ruleshadows.words import first_led_behind


def _check_sum(prime, letters, length, row):
    """Raises BadPrime, BadNumber("letters"), BadNumber("length"), TooMany(1000), BadRow."""
    check_prime(prime)
    check_letters(letters)
    check_from(length, 2, "length")
    check_row(row, words_many(letters, length))


def rules_of_sum(prime, letters, length, row):
    """The rules are what the row has behind each word of all letters but two."""
    _check_sum(prime, letters, length, row)
    pairs = letters * letters
    return Rules(prime, letters, [row[start:start + pairs] for start in range(0, len(row), pairs)])


def rules_from_right(prime, letters, length, row):
    """The rules are what the row has ahead of each word of all letters but two."""
    _check_sum(prime, letters, length, row)
    step = len(row) // (letters * letters)
    return Rules(prime, letters, [row[start::step] for start in range(step)])


def _behind_letters(prime, letters, row):
    """What the row has behind each letter, its places marked with 0 ahead."""
    step = len(row) // letters
    return [
        {(0, spot): row[a * step + spot] % prime for spot in range(step) if row[a * step + spot] % prime}
        for a in range(letters)
    ]


def is_full(prime, letters, length, row):
    """Whether the rows that the row has behind each letter are independent."""
    _check_sum(prime, letters, length, row)
    return rank(prime, _behind_letters(prime, letters, row)) == letters


def turned_round(prime, letters, length, row, table):
    """The row in which the first letter of each word is led by the letter table and put behind the others."""
    _check_sum(prime, letters, length, row)
    if not is_table(table, letters):
        raise BadTable("a letter table is asked")
    return tuple(first_led_behind(prime, row, table))


def round_table(prime, letters, length, row):
    """The letter table by which the row, turned round, is the row again; None."""
    if not is_full(prime, letters, length, row):
        raise NotFull("a full sum of words is asked")
    rows = _behind_letters(prime, letters, row)
    for a in range(letters):
        # A mark behind all words: what is left of it tells how often the row of this letter was taken away.
        rows[a][(1, a)] = 1
    pivots = room_of(prime, rows)
    columns = []
    for b in range(letters):
        ends = row[b::letters]
        left = reduced(prime, pivots, {(0, spot): x % prime for spot, x in enumerate(ends) if x % prime})
        if any([place[0] == 0 for place in left]):
            return None
        columns.append([-left.get((1, a), 0) % prime for a in range(letters)])
    return tuple([tuple([column[a] for column in columns]) for a in range(letters)])
