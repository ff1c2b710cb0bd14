"""Tables of letters: one done behind the other, undone, and with rows and columns exchanged."""

from ruleshadows.solving import dense, room_of


def joined(prime, one, other):
    """The table that leads by one, then by other, as a tuple of tuples."""
    return tuple([
        tuple([sum([row[k] * other[k][at] for k in range(len(other))]) % prime for at in range(len(other[0]))])
        for row in one
    ])


def table_undone(prime, table):
    """The table that undoes this one, which can be undone, as a tuple of tuples."""
    size = len(table)
    rows = []
    for k, row in enumerate(table):
        both = {at: number % prime for at, number in enumerate(row) if number % prime}
        both[size + k] = 1
        rows.append(both)
    pivots = room_of(prime, rows)
    return tuple([
        dense(size, {at - size: pivots[k][at] for at in pivots[k] if at >= size})
        for k in range(size)
    ])


def exchanged(prime, table):
    """The table with rows and columns exchanged, as a tuple of tuples."""
    return tuple([tuple([row[at] % prime for row in table]) for at in range(len(table[0]))])


def turned_over(prime, table):
    """The table that undoes this one, with rows and columns exchanged: what leads tells when this one leads sums."""
    return exchanged(prime, table_undone(prime, table))
