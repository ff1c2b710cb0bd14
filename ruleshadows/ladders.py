"""The ladder of a rule book: rests beside common rooms, rung by rung."""

from ruleshadows.books import check_book
from ruleshadows.checks import check_between, check_from, check_side, words_many
from ruleshadows.commonstock import CommonStock
from ruleshadows.reststock import RestStock
from ruleshadows.solving import dense, dense_rows, put, rank

# Nothing is lost in lengths up to 3, nor at the first two and last two steps of greater ones.
FIRST_LOSING = 4


def rung_size(book, length, step):
    """How many pairs of a rest word and a row of the common room the rung of this step has."""
    check_book(book)
    check_from(length, 0, "length")
    check_between(step, 0, length, "step")
    words_many(book.letters, length)
    return RestStock(book).many(length - step) * CommonStock(book).many(step)


def letters_off(book, step, side):
    """What tells each row of the common room with its first (side 0) or last letter taken off."""
    check_book(book)
    check_from(step, 1, "step")
    check_side(side)
    words_many(book.letters, step)
    commons = CommonStock(book)
    size = commons.many(step - 1)
    return tuple([tuple(dense_rows(size, rows)) for rows in commons.off_rows(step, side)])


def step_rows(book, length, step, side):
    """The rows that lead the rung of this step to that of one less."""
    check_book(book)
    check_from(length, 0, "length")
    check_between(step, 1, length, "step")
    check_side(side)
    words_many(book.letters, length)
    rests, commons = RestStock(book), CommonStock(book)
    size = rests.many(length - step + 1) * commons.many(step - 1)
    return tuple([dense(size, row) for row in led_pairs(rests, commons, length, step, side)])


def led_pairs(rests, commons, length, step, side):
    """The rows of step_rows as dicts."""
    # A letter that is taken off ahead is put behind the rest word, and the other way about.
    steps = rests.side_rows(length - step, 1 - side)
    offs = commons.off_rows(step, side)
    width = commons.many(step - 1)
    return [
        _led_pair(rests, k, off, steps, width)
        for k in range(rests.many(length - step))
        for off in offs
    ]


def _led_pair(rests, k, off, steps, width):
    total = {}
    for a, told in enumerate(off):
        for i, number in steps[k * rests.letters + a].items():
            for j, other in told.items():
                put(rests.prime, total, i * width + j, number * other)
    return total


def lost_steps(rests, commons, length, side):
    """The list of what is lost at each step of this length."""
    ranks = [0]
    for step in range(1, length + 1):
        ranks.append(rank(rests.prime, led_pairs(rests, commons, length, step, side)))
    ranks.append(0)
    return [
        rests.many(length - step) * commons.many(step) - ranks[step] - ranks[step + 1]
        for step in range(length + 1)
    ]


def lost(book, length, side):
    """How many more sums are led to 0 than are led to, step by step."""
    check_book(book)
    check_from(length, 0, "length")
    check_side(side)
    words_many(book.letters, length)
    return tuple(lost_steps(RestStock(book), CommonStock(book), length, side))


def first_losses(book, most):
    """The least length up to most that loses something, with the list of what is lost step by step; None."""
    check_book(book)
    check_from(most, 0, "most")
    words_many(book.letters, most)
    # A book of one letter loses nothing, however long: its lengths have no bound to stop at.
    if book.letters == 1:
        return None
    rests, commons = RestStock(book), CommonStock(book)
    for length in range(FIRST_LOSING, most + 1):
        numbers = lost_steps(rests, commons, length, 0)
        if any(numbers):
            return (length, numbers)
    return None


def first_lost(book, most):
    """The first pair of a length up to most and a step at which something is lost; None."""
    found = first_losses(book, most)
    if found is None:
        return None
    length, numbers = found
    return (length, [step for step in range(length + 1) if numbers[step]][0])


def fits(book, most):
    """Whether nothing is lost in any length up to most."""
    return first_losses(book, most) is None
