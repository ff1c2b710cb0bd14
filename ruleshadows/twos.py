"""Books of two letters with one rule: their kinds, and the tables that lead them to one another."""

from ruleshadows.books import check_book
from ruleshadows.checks import check_prime
from ruleshadows.errors import BadBook
from ruleshadows.pairs import check_primes
from ruleshadows.solving import inverse


def check_two(book):
    """Raises BadBook(None), BadBook("rule") unless this is a rule book of two letters with just one rule."""
    check_book(book)
    if book.letters != 2 or len(book.rules) != 1:
        raise BadBook("rule")


def rule_square(book):
    """The numbers of the one rule as a square, those of 00 and 01 in its first row."""
    rule = book.rules[0]
    return (rule[:2], rule[2:])


def square_worth(prime, square):
    """A number that is 0 exactly if the square of two rows cannot be undone."""
    return (square[0][0] * square[1][1] - square[0][1] * square[1][0]) % prime


def rule_kind(book):
    """What tells to which books of two letters and one rule this one can be led."""
    check_two(book)
    if book.rules[0] == (0, 1, book.prime - 1, 0):
        return ("exchange",)
    square = rule_square(book)
    return _kind_told(book.prime, (square[0][1] - square[1][0]) % book.prime, square_worth(book.prime, square))


def _kind_told(prime, u, v):
    """The kind of a rule that is not 01 less 10, by its two numbers."""
    if v == 0:
        return ("behind",) if u else ("twice",)
    if u == 0:
        # Such a sum over two numbers can be 0, but for 0 and 0, just if less v is a square; over 2 it always can.
        return ("even", any([(number * number + v) % prime == 0 for number in range(prime)]))
    if (u * u - 4 * v) % prime == 0:
        return ("step",)
    return ("turn", u * u * inverse(prime, v) % prime)


def kinds_of(prime):
    """The ascending list of all kinds, each with the number of books of this kind."""
    check_prime(prime)
    found = {}
    for v in range(prime):
        for u in (0, 1):
            kind = _kind_told(prime, u, v)
            # To each u that is not 0 belong as many squares as to 1: they are multiples of one another.
            times = prime - 1 if u else 1
            found[kind] = found.get(kind, 0) + times * _squares_many(prime, u, v)
    # The square of zeros is no rule, and 01 less 10 has a kind of its own.
    found[("twice",)] -= 1
    found[_kind_told(prime, 2 % prime, 1)] -= prime - 1
    found[("exchange",)] = prime - 1
    return [(kind, found[kind] // (prime - 1)) for kind in sorted(found)]


def _squares_many(prime, u, v):
    """How many squares have these two numbers."""
    total = 0
    for below in range(prime):
        # What the numbers at 00 and 11 must make, multiplied.
        product_left = (v + below * (below + u)) % prime
        total += prime - 1 if product_left else 2 * prime - 1
    return total


def rule_table(one, other):
    """A letter table that leads the one book to the other one; None."""
    check_primes(one, other)
    check_two(one)
    check_two(other)
    square, wanted = rule_square(one), rule_square(other)
    # With its letters exchanged other has the number that was its last one at 00.
    turned = not wanted[0][0] and wanted[1][1] != 0
    if turned:
        wanted = (wanted[1][::-1], wanted[0][::-1])
    columns = _columns_for(one.prime, square, wanted)
    if columns is None:
        return None
    if turned:
        columns = columns[::-1]
    return tuple([tuple([column[a] for column in columns]) for a in range(2)])


def _columns_for(prime, square, wanted):
    """The two columns of a table that leads the one square to a multiple of the other one; None."""
    # To multiply the whole table makes no difference: so one first column of each direction will do.
    for first in _directions(prime):
        for second in _second_columns(prime, square, wanted, first):
            if square_worth(prime, (first, second)) and _leads(prime, square, wanted, (first, second)):
                return (first, second)
    return None


def _directions(prime):
    """Two numbers, not both 0, one pair for all of its multiples."""
    return [(1, number) for number in range(prime)] + [(0, 1)]


def _told(square, ahead, behind):
    """The number that a square makes of two numbers ahead of it and two behind it."""
    return sum([ahead[a] * square[a][b] * behind[b] for a in range(2) for b in range(2)])


def _leads(prime, square, wanted, columns):
    """Whether a table of these columns, which can be undone, leads the square to a multiple of the wanted one."""
    made = [_told(square, ahead, behind) for ahead in columns for behind in columns]
    asked = wanted[0] + wanted[1]
    return not any([(made[i] * asked[k] - made[k] * asked[i]) % prime for i in range(4) for k in range(i)])


def _second_columns(prime, square, wanted, first):
    """The second columns that may stand beside the first one."""
    made = _told(square, first, first) % prime
    if not wanted[0][0]:
        # Then the number at 11 is 0, too, and to multiply one column makes no difference.
        return _directions(prime) if made == 0 else []
    if made == 0:
        return []
    # The numbers at 00 and 01 must be alike multiples: what is made of both columns is told.
    needed = made * inverse(prime, wanted[0][0]) * wanted[0][1]
    ahead = [first[0] * square[0][b] + first[1] * square[1][b] for b in range(2)]
    if ahead[0] % prime:
        back = inverse(prime, ahead[0])
        return [((needed - ahead[1] * number) * back % prime, number) for number in range(prime)]
    back = inverse(prime, ahead[1])
    return [(number, needed * back % prime) for number in range(prime)]
