"""Rows of numbers modulo a prime, kept as dicts without their zeros.

A row here is a dict from its places to numbers from 1 to prime - 1. A room is kept by its pivots: a dict
from the first place of each row of its tidy list to this row. Places may be numbers or tuples of numbers.
"""


def inverse(prime, number):
    """The number from 1 to prime - 1 whose product with this one is 1 modulo the prime."""
    return [k for k in range(1, prime) if k * number % prime == 1][0]


def sparse(prime, row):
    """A list of numbers as a row."""
    return {at: number % prime for at, number in enumerate(row) if number % prime}


def dense(size, row):
    """A row as a tuple of so many numbers."""
    numbers = [0] * size
    for at, number in row.items():
        numbers[at] = number
    return tuple(numbers)


def dense_rows(size, rows):
    """A list of rows as a list of tuples."""
    return [dense(size, row) for row in rows]


def put(prime, row, at, number):
    """Changes the row: the number is added at this place."""
    total = (row.get(at, 0) + number) % prime
    if total:
        row[at] = total
    else:
        row.pop(at, None)


def put_times(prime, row, times, other):
    """Changes the row: so many times the other one is added."""
    for at, number in other.items():
        total = (row.get(at, 0) + times * number) % prime
        if total:
            row[at] = total
        else:
            row.pop(at, None)


def mixed(prime, numbers, rows):
    """The sum of each number times the row with its index; numbers is a row itself."""
    total = {}
    for at, number in numbers.items():
        put_times(prime, total, number, rows[at])
    return total


def reduced(prime, pivots, row):
    """The row that differs from this one by one of the room and has 0 at all pivots."""
    left = {at: row[at] for at in row}
    # No pivot row has anything at another pivot, so the numbers at pivots are told by the row as it was.
    for at, number in row.items():
        if at in pivots:
            put_times(prime, left, prime - number, pivots[at])
    return left


def take_in(prime, pivots, row):
    """Changes the room: the row is put in. Whether this makes it larger."""
    left = reduced(prime, pivots, row)
    if not left:
        return False
    first = min(list(left))
    factor = inverse(prime, left[first])
    fresh = {at: number * factor % prime for at, number in left.items()}
    for at in list(pivots):
        number = pivots[at].get(first, 0)
        if number:
            put_times(prime, pivots[at], prime - number, fresh)
    pivots[first] = fresh
    return True


def room_of(prime, rows):
    """The pivots of the room of these rows."""
    pivots = {}
    for row in rows:
        take_in(prime, pivots, row)
    return pivots


def tidy_rows(pivots):
    """The tidy list of a room."""
    return [pivots[at] for at in sorted(pivots)]


def rank(prime, rows):
    """How many rows the tidy list of these rows has."""
    return len(room_of(prime, rows))


def dark_rows(prime, size, rows):
    """The tidy list of the rows that tell 0 of all these, places being numbers below size."""
    last = size - 1
    # Worked out from the last place on, so that what comes out begins with its own free place.
    pivots = room_of(prime, [_turned(last, row) for row in rows])
    found = {at: {at: 1} for at in range(size) if last - at not in pivots}
    for turned, row in pivots.items():
        for at, number in row.items():
            if at != turned:
                found[last - at][last - turned] = prime - number
    return list(found.values())


def _turned(last, row):
    """The row with its places counted from the last one."""
    return {last - at: number for at, number in row.items()}


def kernel_rows(prime, rows):
    """The tidy list of the sums of multiples of these rows that are 0, each told by the multiples."""
    columns = {}
    for k, row in enumerate(rows):
        for at, number in row.items():
            columns.setdefault(at, {})[k] = number
    return dark_rows(prime, len(rows), list(columns.values()))


def common_rows(prime, rows, pivots):
    """The tidy list of what the room of the tidy list rows and that of pivots have in common."""
    rests = [reduced(prime, pivots, row) for row in rows]
    return [mixed(prime, numbers, rows) for numbers in kernel_rows(prime, rests)]


def sum_rows(prime, rows, others):
    """The tidy list of both rooms together."""
    return tidy_rows(room_of(prime, rows + others))


def unit_rows(size):
    """The tidy list of all rows of this size."""
    return [{at: 1} for at in range(size)]


def tidied(prime, size, rows):
    """The tidy list of lists of numbers, as tuples."""
    return dense_rows(size, tidy_rows(room_of(prime, [sparse(prime, row) for row in rows])))
