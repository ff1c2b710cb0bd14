"""Books whose shadow is paired, others, and sums of words."""

from ruleshadows.books import Rules, book_led, exchange_book, free_book, minus_book, shut_book, weighed_book
from ruleshadows.formfamilies import ring_sum, signed_sum, square_book
from ruleshadows.shadows import shadow
from ruleshadows.sums import rules_of_sum
from samples import bent_book, chance_book, chance_row, chance_table, few_books, heart_book, told_book

# A prime and three numbers: those of the first five make a paired shadow, those of the others do not.
RINGS = ((5, 1, 2, 0), (7, 3, 1, 2), (2, 1, 1, 0), (3, 1, 2, 1), (5, 0, 1, 4), (3, 1, 1, 1), (2, 1, 0, 0), (7, 1, 2, 4))


def weighed(prime, letters, seed):
    """A book of letters that are exchanged, with weights and without squares."""
    row = chance_row(letters * letters, prime, seed)
    weights = [[0 if a == b else 1 + row[a * letters + b] % (prime - 1) if prime > 2 else 1 for a in range(letters)]
               for b in range(letters)]
    return weighed_book(prime, weights)


def bent_sum(prime):
    """000, 111, and 012 with its turns: a sum that is full and round, but whose book loses something in length 4."""
    row = [0] * 27
    for a, b, c in ((0, 0, 0), (1, 1, 1), (0, 1, 2), (1, 2, 0), (2, 0, 1)):
        row[9 * a + 3 * b + c] = 1
    return (prime, 3, 3, tuple(row))


def paired_shadows():
    """Books the shadows of which are paired, with their tops; all but two of them fit."""
    found = [(free_book(2, 1), 1), (free_book(7, 1), 1), (exchange_book(2, 2), 2), (exchange_book(3, 3), 3)]
    found += [(weighed(7, 2, 1), 2), (weighed(5, 3, 2), 3), (weighed(97, 3, 3), 3)]
    found += [(square_book(5, [[1, 2], [0, 1]]), 2), (square_book(3, [[0, 1, 0], [0, 0, 1], [1, 0, 0]]), 2),
              (square_book(2, [[1, 1, 0, 0], [0, 1, 1, 0], [0, 0, 1, 1], [0, 0, 0, 1]]), 2)]
    for prime, one, other, third in RINGS[:5]:
        found.append((rules_of_sum(prime, 3, 3, ring_sum(prime, one, other, third)), 3))
    for prime, letters, top, base in ((3, 3, 3, exchange_book(3, 3)), (5, 2, 2, square_book(5, [[1, 3], [1, 1]])),
                                      (2, 3, 3, rules_of_sum(2, 3, 3, ring_sum(2, 1, 1, 0)))):
        found.append((book_led(base, chance_table(prime, letters, 5)), top))
    return found + [(rules_of_sum(*bent_sum(prime)), 3) for prime in (2, 5)]


def other_shadows():
    """Books the shadows of which are not paired: they do not end, end with more rests, or with squares that fail."""
    found = [shut_book(2, 1), shut_book(3, 2), free_book(5, 2), free_book(2, 3), minus_book(3, 2), minus_book(5, 3)]
    # Those of four letters end at five letters, which is too long to be told.
    found += [exchange_book(5, 4), weighed(3, 4, 4), Rules(3, 3, [])]
    found += [square_book(5, [[1, 2], [2, 4]]), square_book(3, [[0, 1], [0, 0]]), told_book(5, 2, [{(0, 0): 1}]),
              square_book(2, [[1, 0, 0], [0, 1, 0], [0, 0, 0]]), square_book(3, [[0, 1, 0], [0, 0, 1], [0, 0, 0]])]
    for prime, one, other, third in RINGS[5:]:
        found.append(rules_of_sum(prime, 3, 3, ring_sum(prime, one, other, third)))
    return found + [bent_book(3), heart_book(2, 1, 1), chance_book(3, 3, 3, 5), chance_book(2, 3, 4, 6)]


def most_of(book):
    """The greatest length that may be asked of a book with so many letters, but not too long."""
    return {1: 8, 2: 7, 3: 5, 4: 4}[book.letters]


def many_books():
    """Books and their shadows, of all these sorts."""
    found = [book for book, _ in paired_shadows()] + other_shadows() + few_books()
    return found + [shadow(book) for book in found]


def some_sums():
    """Tuples of a prime, letters, a length and a row: full and round, full alone, and neither."""
    found = [bent_sum(2), bent_sum(3), (7, 2, 2, signed_sum(7, 2)), (2, 2, 2, signed_sum(2, 2)),
             (3, 3, 3, signed_sum(3, 3)), (5, 4, 4, signed_sum(5, 4))]
    for prime, one, other, third in RINGS:
        found.append((prime, 3, 3, ring_sum(prime, one, other, third)))
    for prime, letters, length, seed in ((2, 2, 3, 1), (3, 2, 2, 2), (3, 2, 3, 3), (5, 2, 4, 4), (2, 3, 2, 5),
                                         (97, 3, 3, 6), (7, 1, 2, 7), (5, 1, 4, 8), (2, 4, 2, 9), (3, 3, 4, 10)):
        found.append((prime, letters, length, tuple(chance_row(letters ** length, prime, seed))))
    # Squares: full exactly if they can be undone, and then round.
    found += [(5, 2, 2, (1, 3, 1, 1)), (5, 2, 2, (1, 2, 2, 4)), (3, 3, 2, (0, 1, 0, 0, 0, 1, 1, 0, 0)),
              (7, 1, 3, (5,)), (7, 1, 3, (0,)), (2, 2, 3, (0,) * 8), (3, 2, 3, (1, 0, 0, 0, 0, 0, 0, 1)),
              (3, 2, 3, (0, 1, 1, 0, 1, 0, 0, 0)), (5, 2, 3, (0, 1, 1, 0, 1, 0, 0, 2)),
              (2, 2, 3, (0, 1, 0, 0, 0, 0, 1, 0))]
    return found
