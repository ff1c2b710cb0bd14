"""Webs for the tests."""

import itertools

from samples import Numbers

RING = [[0, 1, 1], [1, 2, 1], [2, 3, 2], [3, 4, 1], [0, 4, 2]]


def pairs_of(letters):
    return list(itertools.combinations(range(letters), 2))


def webs():
    """(prime, letters, lines, nothings) of one to five letters, some with all lines, some with none."""
    found = [(2, 1, [], []), (3, 1, [], [0]), (5, 2, [(0, 1, 2)], []), (5, 2, [], [1]), (3, 5, RING, []),
             (3, 5, RING, [0, 2])]
    for seed in range(24):
        numbers = Numbers(seed + 400)
        prime, letters = (2, 3, 5, 97)[seed % 4], 2 + seed % 3
        lines = [[a, b, 1 + numbers.below(prime - 1) + prime * (seed % 2)] for a, b in pairs_of(letters)
                 if numbers.below(3) < 1 + seed % 2]
        found.append((prime, letters, lines[::-1], [a for a in range(letters) if numbers.below(2)][::-1]))
    return found


def linked(lines, a, b):
    return any((line[0], line[1]) == (min(a, b), max(a, b)) for line in lines)


WRONG_LINES = (None, 0, "01", {}, [[0, 1]], [[0, 1, 1, 1]], [[1, 0, 1]], [[0, 0, 1]], [[0, 3, 1]], [[-1, 0, 1]],
               [[0, 1, 1], [0, 1, 2]], [(0, 1, 1), None], [[0, True, 1]], [[False, 1, 1]], [[0, 1, True]],
               [[0, 1, 1.0]], [[0, 1, None]], [0, 1, 1], {(0, 1, 1)})
WRONG_NOTHINGS = (None, 0, "0", {}, [3], [-1], [0, 0], [1, 0, 1], [True], [0.0], [None], [[0]], {0})
