"""The fraction that tells the counts of a tidy book in all lengths."""

from ruleshadows.checks import check_from, is_list, is_row
from ruleshadows.errors import BadRow, TooMany
from ruleshadows.follows import follows
from ruleshadows.polys import lowest, unroll
from ruleshadows.sweeps import check_tidy

MOST_UNROLLED = 1000


def unrolled(over, below, most):
    """The numbers up to most that the fraction unrolls to."""
    for numbers in (over, below):
        if not is_list(numbers) or not numbers or not is_row(numbers, len(numbers)):
            raise BadRow("a list of one or more numbers is asked")
    if below[0] != 1:
        raise BadRow("what stands below begins with 1")
    check_from(most, 0, "most")
    if most > MOST_UNROLLED:
        raise TooMany(MOST_UNROLLED)
    return unroll(over, below, most)


def fraction(book, order):
    """The fraction that unrolls to the counts of the book, with as few numbers as can be."""
    check_tidy(book, order)
    square = follows(book, order)
    # The square of the shadow, its letters exchanged for 1 less: what is 1 there becomes -1.
    turned = [[number - 1 for number in row] for row in square]
    return lowest(_undoing(turned), _undoing(square))


def _undoing(square):
    """The determinant of the plain square less t times this one, by the powers of t."""
    size = len(square)
    found = [1]
    powers = [[int(a == b) for b in range(size)] for a in range(size)]
    for k in range(1, size + 1):
        powers = [
            [sum([square[a][c] * powers[c][b] for c in range(size)]) for b in range(size)]
            for a in range(size)
        ]
        # The trace is a multiple of k: all numbers found are whole.
        number = -sum([powers[a][a] for a in range(size)]) // k
        found.append(number)
        for a in range(size):
            powers[a][a] += number
    return found
