"""Rooms of rows, each told by its tidy list."""

from ruleshadows.checks import check_between, check_prime, check_rows
from ruleshadows.solving import (
    common_rows,
    dark_rows,
    dense_rows,
    reduced,
    room_of,
    sparse,
    sum_rows,
    tidied,
    tidy_rows,
)

MOST_SIZE = 1000


def check_room(prime, size):
    """Raises BadPrime, then BadNumber("size")."""
    check_prime(prime)
    check_between(size, 0, MOST_SIZE, "size")


def sparse_tidy(prime, rows):
    """The tidy list of lists of numbers, as dicts without zeros."""
    return tidy_rows(room_of(prime, [sparse(prime, row) for row in rows]))


def tidy(prime, size, one):
    """The tidy list of the room of these rows."""
    check_room(prime, size)
    check_rows(one, size)
    return tidied(prime, size, one)


def room_sum(prime, size, one, other):
    """The tidy list of both rooms together."""
    check_room(prime, size)
    check_rows(one, size)
    check_rows(other, size)
    return dense_rows(size, sum_rows(prime, sparse_tidy(prime, one), sparse_tidy(prime, other)))


def room_common(prime, size, one, other):
    """The tidy list of the rows that both rooms have."""
    check_room(prime, size)
    check_rows(one, size)
    check_rows(other, size)
    pivots = room_of(prime, [sparse(prime, row) for row in other])
    return dense_rows(size, common_rows(prime, sparse_tidy(prime, one), pivots))


def room_dark(prime, size, one):
    """The tidy list of the rows that tell 0 of all rows of the room."""
    check_room(prime, size)
    check_rows(one, size)
    return dense_rows(size, dark_rows(prime, size, [sparse(prime, row) for row in one]))


def is_within(prime, size, one, other):
    """Whether the first room has all rows of the second one."""
    check_room(prime, size)
    check_rows(one, size)
    check_rows(other, size)
    pivots = room_of(prime, [sparse(prime, row) for row in one])
    return not any([reduced(prime, pivots, sparse(prime, row)) for row in other])
