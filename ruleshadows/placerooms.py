"""The rooms of the places of a rule book, and whether one basis fits them all."""

from ruleshadows.books import check_book
from ruleshadows.checks import length_many
from ruleshadows.commonstock import CommonStock
from ruleshadows.fitting import split_rooms
from ruleshadows.ladders import first_losses, lost_steps
from ruleshadows.lattices import check_few
from ruleshadows.places import place_rows
from ruleshadows.reststock import RestStock
from ruleshadows.solving import dense_rows


def _sparse_rooms(book, length):
    return [place_rows(book, length, place) for place in range(length - 1)]


def place_rooms(book, length):
    """The list of the rooms of all places of this length."""
    check_book(book)
    size = length_many(book.letters, length)
    return [dense_rows(size, room) for room in _sparse_rooms(book, length)]


def fitting_at(book, length):
    """A fitting basis of the rooms of all places; None if there is none."""
    check_book(book)
    size = length_many(book.letters, length)
    check_few(length - 1)
    split = split_rooms(book.prime, size, _sparse_rooms(book, length))
    if split is None:
        return None
    return dense_rows(size, split.rows)


def gaps(book, length):
    """The gaps of the rooms of all places, place by place."""
    check_book(book)
    length_many(book.letters, length)
    return tuple(_gaps(length, lost_steps(RestStock(book), CommonStock(book), length, 0)))


def _gaps(length, losses):
    """The gap at a place is what the ladder loses at the step length - 1 - place.

    The three rooms of a gap are those of the ladder at this step, and the ladder's rungs are far smaller.
    """
    return [losses[length - 1 - place] for place in range(length - 1)]


def first_barred(book, most):
    """The first pair of a length up to most and a place with a gap; None without one."""
    found = first_losses(book, most)
    if found is None:
        return None
    length, losses = found
    there = _gaps(length, losses)
    return (length, [place for place in range(length - 1) if there[place]][0])
