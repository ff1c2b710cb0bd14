"""Least ladders: relations, relations among relations, and so on."""

from ruleshadows.books import check_book
from ruleshadows.checks import check_from, check_side, words_many
from ruleshadows.floors import Ladder


def least_ladder(book, most, side):
    """The floors 0 to most, with generators of lengths up to most."""
    check_book(book)
    check_from(most, 0, "most")
    check_side(side)
    words_many(book.letters, most)
    ladder = built_ladder(book, most, side)
    return [ladder.told_floor(step) for step in range(most + 1)]


def built_ladder(book, most, side):
    """The least ladder with all of its floors up to most."""
    ladder = Ladder(book, side)
    for length in range(1, most + 1):
        ladder.build(length, most)
    return ladder
