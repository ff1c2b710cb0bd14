"""How many generators least ladders have, and whether all of them are as short as can be."""

from ruleshadows.books import check_book
from ruleshadows.checks import check_from, check_side, words_many
from ruleshadows.floors import Ladder
from ruleshadows.leasts import built_ladder


def relation_numbers(book, most, side):
    """For each floor up to most the numbers of its generators of the lengths up to most."""
    check_book(book)
    check_from(most, 0, "most")
    check_side(side)
    words_many(book.letters, most)
    floors = built_ladder(book, most, side).floors
    return tuple([
        tuple([floors[step].lengths.count(length) for length in range(most + 1)])
        for step in range(most + 1)
    ])


def first_gap(book, most):
    """The first pair of a length up to most and a floor of another number that has generators of it; None."""
    check_book(book)
    check_from(most, 0, "most")
    words_many(book.letters, most)
    # A book of one letter fits, however long: its lengths have no bound to stop at.
    if book.letters == 1:
        return None
    ladder = Ladder(book, 0)
    for length in range(1, most + 1):
        ladder.build(length, length)
        for step in range(length):
            if length in ladder.floors[step].lengths:
                return (length, step)
    return None


def relations_straight(book, most):
    """Whether all generators up to most have the number of their floor as length."""
    return first_gap(book, most) is None
