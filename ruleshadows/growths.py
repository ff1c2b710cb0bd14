"""How fast the counts of a tidy book grow."""

from ruleshadows.follows import follows, longer_counts
from ruleshadows.sweeps import check_tidy


def growth(book, order):
    """("ends", d), ("power", k) or ("doubles", m): just one of them is right."""
    check_tidy(book, order)
    square = follows(book, order)
    reached = _reached(square)
    rings = [a for a in range(book.letters) if reached[a][a]]
    if not rings:
        return ("ends", _end(square))
    many = _doubling(square)
    if many:
        return ("doubles", many)
    return ("power", max([_steps_from(reached, rings, a) for a in rings]) - 1)


def _reached(square):
    """For letters a, b whether a plain word of two letters or more begins with a and ends with b."""
    letters = len(square)
    reached = [[bool(number) for number in row] for row in square]
    for middle in range(letters):
        reached = [
            [row[b] or (row[middle] and reached[middle][b]) for b in range(letters)]
            for row in reached
        ]
    return reached


def _end(square):
    """The least length without plain words, where there is one."""
    length = 1
    counts = [1] * len(square)
    while any(counts):
        counts = longer_counts(square, counts)
        length += 1
    return length


def _doubling(square):
    """The least number of steps by which two plain words come back to the letter they begin with; 0 if there is none.

    If there are any at all, then some with at most twice as many steps as there are letters.
    """
    letters = len(square)
    ways = [[int(a == b) for b in range(letters)] for a in range(letters)]
    for steps in range(1, 2 * letters + 1):
        ways = [longer_counts(square, row) for row in ways]
        if any([ways[a][a] > 1 for a in range(letters)]):
            return steps
    return 0


def _steps_from(reached, rings, letter):
    """The greatest number of letters that come back, each leading to the next one but not the other way about."""
    # From one such letter to the next one fewer can be reached, so this comes to an end.
    behind = [b for b in rings if reached[letter][b] and not reached[b][letter]]
    return 1 + max([_steps_from(reached, rings, b) for b in behind], default=0)
