"""Books with lower parts whose letters are moved, led, or read from the other end."""

from ruleshadows.books import check_undoable
from ruleshadows.checks import MOST_WORDS, check_row
from ruleshadows.errors import TooMany
from ruleshadows.longs import long_cut, long_joined, long_rules, lowered_of
from ruleshadows.lowered import Lowered, check_lowered
from ruleshadows.solving import sparse
from ruleshadows.words import row_led


def lowered_moved(lowered, numbers):
    """Each letter of each lowered rule has the letter plus its number in its place."""
    check_lowered(lowered)
    check_row(numbers, lowered.book.letters)
    return _moved(lowered, numbers)


def _moved(lowered, moves):
    sums, numbers = [], []
    for i, rule in enumerate(lowered.book.rules):
        total, number = _moved_parts(lowered, i, sparse(lowered.book.prime, rule), moves)
        sums.append(total)
        numbers.append(number)
    return Lowered(lowered.book, sums, numbers)


def _moved_parts(lowered, index, rule, moves):
    """The sum of letters and the number that a rule is, when all letters are moved."""
    letters = lowered.book.letters
    total = list(lowered.sums[index])
    number = lowered.numbers[index]
    for letter, part in enumerate(lowered.sums[index]):
        number += part * moves[letter]
    for at, times in rule.items():
        a, b = at // letters, at % letters
        total[a] -= times * moves[b]
        total[b] -= times * moves[a]
        number -= times * moves[a] * moves[b]
    return (total, number)


def lowered_led(lowered, table):
    """The book of all lowered rules, their letters led by the table."""
    check_lowered(lowered)
    prime, letters = lowered.book.prime, lowered.book.letters
    check_undoable(prime, letters, table)
    made = []
    for long in long_rules(lowered):
        rows = long_cut(prime, letters, 2, long)
        made.append([row_led(prime, letters, length, row, table) for length, row in enumerate(rows)])
    return _of_rows(prime, letters, made)


def _of_rows(prime, letters, made):
    """The book of long rules, each told by its rows of the lengths 0, 1 and 2."""
    return lowered_of(prime, letters, [sparse(prime, long_joined(prime, letters, rows)) for rows in made])


def lowered_read_back(lowered):
    """The book of all lowered rules with their words reversed."""
    check_lowered(lowered)
    prime, letters = lowered.book.prime, lowered.book.letters
    made = []
    for long in long_rules(lowered):
        rows = list(long_cut(prime, letters, 2, long))
        pairs = rows[2]
        rows[2] = [pairs[b * letters + a] for a in range(letters) for b in range(letters)]
        made.append(rows)
    return _of_rows(prime, letters, made)


def least_lowered(lowered):
    """Of all books that this one is moved to the one with the least sums, then the least numbers."""
    check_lowered(lowered)
    prime = lowered.book.prime
    moves = [()]
    for _ in range(lowered.book.letters):
        moves = [move + (number,) for move in moves for number in range(prime)]
        if len(moves) > MOST_WORDS:
            raise TooMany(MOST_WORDS)
    best = _moved(lowered, moves[0])
    for move in moves:
        other = _moved(lowered, move)
        if (other.sums, other.numbers) < (best.sums, best.numbers):
            best = other
    return best
