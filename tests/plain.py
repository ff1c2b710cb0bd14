"""The slow and plain way to what the package works out: full rows, and nothing but elimination.

Nothing here comes from the package, so that the tests judge it by something else than itself.
"""

import itertools


def gauss(prime, rows):
    """The tidy list of rows, as tuples."""
    rows = [[number % prime for number in row] for row in rows]
    found = []
    width = len(rows[0]) if rows else 0
    for column in range(width):
        best = next((row for row in rows if row[column]), None)
        if best is None:
            continue
        rows.remove(best)
        factor = next(k for k in range(1, prime) if k * best[column] % prime == 1)
        best = [number * factor % prime for number in best]
        rows = [[(x - row[column] * y) % prime for x, y in zip(row, best)] for row in rows]
        found = [[(x - row[column] * y) % prime for x, y in zip(row, best)] for row in found] + [best]
    return [tuple(row) for row in found]


def rank(prime, rows):
    return len(gauss(prime, rows))


def identity(size):
    return [tuple(int(i == k) for k in range(size)) for i in range(size)]


def first(row):
    return next(at for at, number in enumerate(row) if number)


def dark(prime, rows, size):
    """The tidy list of the rows that tell 0 of all rows."""
    tidy = gauss(prime, rows)
    firsts = {first(row): row for row in tidy}
    told = []
    for free in range(size):
        if free not in firsts:
            told.append([1 if at == free else -firsts[at][free] if at in firsts else 0 for at in range(size)])
    return gauss(prime, told)


def common(prime, one, other, size):
    """What two rooms have in common: what is told 0 by all that tells 0 of one of them."""
    return dark(prime, dark(prime, one, size) + dark(prime, other, size), size)


def common_of(prime, rooms, size):
    found = identity(size)
    for room in rooms:
        found = common(prime, found, room, size)
    return found


def left(prime, tidy, row):
    """The row less what a tidy list can take away."""
    row = [number % prime for number in row]
    for other in tidy:
        times = row[first(other)]
        if times:
            row = [(x - times * y) % prime for x, y in zip(row, other)]
    return tuple(row)


def within(prime, tidy, row):
    return not any(left(prime, tidy, row))


def beside(prime, one, other):
    return tuple(x * y % prime for x in one for y in other)


def summed(prime, rows, numbers, size):
    total = [0] * size
    for number, row in zip(numbers, rows):
        total = [(x + number * y) % prime for x, y in zip(total, row)]
    return tuple(total)


def words(letters, length):
    return list(itertools.product(range(letters), repeat=length))


def unit(size, at):
    return tuple(int(k == at) for k in range(size))


def spot(letters, word):
    return words(letters, len(word)).index(word)


def place(prime, letters, rules, length, at):
    """All rules put in at one place, tidy."""
    rows = []
    for ahead in identity(letters ** at):
        for rule in rules:
            for behind in identity(letters ** (length - 2 - at)):
                rows.append(beside(prime, beside(prime, ahead, rule), behind))
    return gauss(prime, rows)


def nothing(prime, letters, rules, length):
    return gauss(prime, [row for at in range(length - 1) for row in place(prime, letters, rules, length, at)])


def rest_words(prime, letters, rules, length):
    firsts = {first(row) for row in nothing(prime, letters, rules, length)}
    return [word for at, word in enumerate(words(letters, length)) if at not in firsts]


def commons(prime, letters, rules, length):
    rooms = [place(prime, letters, rules, length, at) for at in range(length - 1)]
    return common_of(prime, rooms, letters ** length)


def led(prime, letters, length, row, table):
    """Each letter of each word led, word by word."""
    total = [0] * letters ** length
    every = words(letters, length)
    for number, word in zip(row, every):
        for at, other in enumerate(every):
            times = number
            for a, b in zip(word, other):
                times = times * table[a][b]
            total[at] = (total[at] + times) % prime
    return tuple(total)


def transposed(table):
    return tuple(zip(*table))


def undone(prime, table):
    """The table that undoes a table, None if there is none."""
    size = len(table)
    both = gauss(prime, [list(row) + list(unit(size, k)) for k, row in enumerate(table)])
    if [row[:size] for row in both] != identity(size):
        return None
    return tuple(row[size:] for row in both)
