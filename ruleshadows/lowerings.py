"""All lower parts of a rule book that lose nothing at three letters."""

from ruleshadows.books import check_book
from ruleshadows.checks import MOST_WORDS
from ruleshadows.errors import TooMany
from ruleshadows.lowered import check_sums
from ruleshadows.solving import dense, dense_rows, kernel_rows, mixed, put, put_times, sparse
from ruleshadows.threes import three_ways


def sums_room(book):
    """The tidy list of the sums, one behind the other, with which only rules are left of two letters."""
    check_book(book)
    letters, rests = book.letters, _pair_rests(book)
    ways = three_ways(book)
    size = len(book.rules) * letters
    rows = [{} for _ in range(size)]
    for x, (rules_ahead, rules_behind) in enumerate(ways):
        for i, letter, number in rules_ahead:
            for c in range(letters):
                _put_rest(book.prime, rows[i * letters + c], x, rests[c * letters + letter], number)
        for i, letter, number in rules_behind:
            for c in range(letters):
                _put_rest(book.prime, rows[i * letters + c], x, rests[letter * letters + c], -number)
    return dense_rows(size, kernel_rows(book.prime, rows))


def _put_rest(prime, row, x, left, number):
    """Changes the row: so many times the rest, for the common row with the index x, is added."""
    put_times(prime, row, number, {(x, at): left[at] for at in left})


def _pair_rests(book):
    """The rest of each word of two letters, by its spot."""
    rests = [{at: 1} for at in range(book.letters * book.letters)]
    for rule in book.rules:
        row = sparse(book.prime, rule)
        first = min(list(row))
        rests[first] = {at: book.prime - row[at] for at in row if at != first}
    return rests


def numbers_for(book, sums):
    """The numbers with which these sums lose nothing at three letters: one tuple, and a room to add; None."""
    check_sums(book, sums)
    many = len(book.rules)
    firsts = [rule.index(1) for rule in book.rules]
    rests = _pair_rests(book)
    # The first row stands for what the sums make alone, the others for the numbers of the rules, one by one.
    rows = [{} for _ in range(many + 1)]
    for x, way in enumerate(three_ways(book)):
        pairs = _pairs_left(book, sums, way)
        if mixed(book.prime, pairs, rests):
            return None
        for i, first in enumerate(firsts):
            number = pairs.get(first, 0)
            for letter, part in enumerate(sums[i]):
                put(book.prime, rows[0], (x, letter), number * part)
            put(book.prime, rows[1 + i], (x, book.letters), number)
        for i, letter, number in way[0]:
            put(book.prime, rows[1 + i], (x, letter), number)
        for i, letter, number in way[1]:
            put(book.prime, rows[1 + i], (x, letter), -number)
    found = [dense(many + 1, row) for row in kernel_rows(book.prime, rows)]
    # What makes up for the sums alone begins with 1, and has 0 where the others, tidy as they are, begin.
    if not found or not found[0][0]:
        return None
    return (found[0][1:], [row[1:] for row in found[1:]])


def _pairs_left(book, sums, way):
    """What has two letters in the difference of the two ways, the sums put in."""
    letters = book.letters
    row = {}
    for i, letter, number in way[0]:
        for c, part in enumerate(sums[i]):
            put(book.prime, row, c * letters + letter, number * part)
    for i, letter, number in way[1]:
        for c, part in enumerate(sums[i]):
            put(book.prime, row, letter * letters + c, -number * part)
    return row


def lowerings(book):
    """The ascending list of all pairs of sums and numbers that lose nothing at three letters."""
    check_book(book)
    many = 1
    for _ in range(len(book.rules) * (book.letters + 1)):
        many *= book.prime
        if many > MOST_WORDS:
            raise TooMany(MOST_WORDS)
    letters = book.letters
    found = []
    for flat in _all_sums(book.prime, len(book.rules) * letters, sums_room(book)):
        sums = tuple([flat[i * letters:(i + 1) * letters] for i in range(len(book.rules))])
        pair = numbers_for(book, sums)
        if pair is not None:
            for more in _all_sums(book.prime, len(book.rules), pair[1]):
                numbers = [(one + other) % book.prime for one, other in zip(pair[0], more)]
                found.append((sums, tuple(numbers)))
    return sorted(found)


def _all_sums(prime, size, rows):
    """All sums of multiples of these rows of one size."""
    found = [(0,) * size]
    for row in rows:
        found = [
            tuple([(one + times * other) % prime for one, other in zip(total, row)])
            for total in found
            for times in range(prime)
        ]
    return found
