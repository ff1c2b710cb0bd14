import itertools
import unittest

import plain
from asking import MANY, NO_BOOK, NUMBERS_NOT, Asks, number
from restsamples import nothing_of, rest_of, unit_of
from ruleshadows.books import exchange_book, free_book, minus_book, shut_book
from ruleshadows.keeping import keeping_book
from ruleshadows.keepsplits import keeping_split, plain_number
from samples import bent_book, chance_book, chance_row, told, told_book

PRIME = ("BadBook", "prime")
LETTERS = number("letters")
BOOKS_NOT = (None, 0, "x", [free_book(2, 1)], (2, 1, ()))


def threes():
    """Three books over one prime, any two of which make few pairs of letters."""
    return [
        (free_book(3, 1), free_book(3, 1), free_book(3, 1)), (shut_book(2, 1), free_book(2, 1), shut_book(2, 1)),
        (shut_book(5, 1), shut_book(5, 1), free_book(5, 1)),
        (exchange_book(3, 2), exchange_book(3, 2), exchange_book(3, 2)),
        (exchange_book(5, 2), minus_book(5, 2), told_book(5, 2, [{(0, 0): 1}])),
        (bent_book(2), bent_book(2), bent_book(2)),
        (chance_book(3, 2, 2, 1), free_book(3, 1), chance_book(3, 2, 1, 2)),
        (shut_book(2, 1), bent_book(2), shut_book(2, 2)),
        (chance_book(2, 2, 2, 3), chance_book(2, 2, 1, 4), chance_book(2, 2, 2, 5)),
        (bent_book(3), shut_book(3, 1), bent_book(3)),
        (chance_book(2, 3, 4, 6), shut_book(2, 1), chance_book(2, 2, 2, 7)),
        (shut_book(3, 2), exchange_book(3, 2), shut_book(3, 1)),
    ]


def lengths(one, middle, other):
    """Lengths that are small enough for the plain way."""
    pairs = max(x.letters * y.letters for x, y in ((one, middle), (middle, other), (one, other)))
    return range({1: 5, 2: 4, 3: 3, 4: 3, 6: 3}[pairs] if pairs < 4 else 3)


def plain_split(one, middle, other, many, row):
    """The split, all words written out, both halves put to their rests by full rows."""
    n, q, m = one.letters, middle.letters, other.letters
    firsts, seconds = keeping_book(one, middle), keeping_book(middle, other)
    total = [[0] * (q * m) ** many for _ in range((n * q) ** many)]
    for number_there, word in zip(row, plain.words(n * m, many)):
        if not number_there % one.prime:
            continue
        for inner in plain.words(q, many):
            ahead = tuple(pair // m * q + e for pair, e in zip(word, inner))
            behind = tuple(e * m + pair % m for pair, e in zip(word, inner))
            left = rest_of(firsts, many, unit_of(n * q, ahead))
            right = rest_of(seconds, many, unit_of(q * m, behind))
            for i, x in enumerate(left):
                if x:
                    total[i] = [t + number_there * x * y for t, y in zip(total[i], right)]
    return tuple(tuple(t % one.prime for t in line) for line in total)


def some_row(one, other, many, seed):
    return chance_row((one.letters * other.letters) ** many, one.prime, seed)


class KeepSplits(Asks, unittest.TestCase):
    def test_split_by_full_rows(self):
        some = 0
        for one, middle, other in threes():
            for many in lengths(one, middle, other):
                row = [3 * x - 1 for x in some_row(one, other, many, many + 1)]
                found = keeping_split(one, middle, other, many, row)
                self.assertTrue(isinstance(found, tuple) and all(isinstance(line, tuple) for line in found))
                self.assertEqual(found, plain_split(one, middle, other, many, row), (told(one), told(middle), many))
                some += any(any(line) for line in found)
        self.assertGreater(some, 20)

    def test_heart_nothing_is_split_into_0(self):
        some = 0
        for one, middle, other in threes():
            for many in lengths(one, middle, other):
                keeping = keeping_book(one, other)
                for row in nothing_of(keeping, many)[:8]:
                    some += 1
                    self.assertFalse(any(any(line) for line in keeping_split(one, middle, other, many, row)))
                row = some_row(one, other, many, many + 4)
                self.assertEqual(keeping_split(one, middle, other, many, row),
                                 keeping_split(one, middle, other, many, rest_of(keeping, many, row)))
        self.assertGreater(some, 30)

    def test_fact_split_again_in_either_half(self):
        for one, middle, other in threes():
            third = middle if middle.letters < 3 else other
            for many in range(3):
                if max(one.letters * third.letters, third.letters * middle.letters, 4) ** many > 20:
                    continue
                halves = keeping_split(one, middle, other, many, some_row(one, other, many, many))
                first, second = {}, {}
                # The first half through a third book; and what goes through this one, its second half through middle.
                columns = list(zip(*halves))
                for k, column in enumerate(columns):
                    for i, line in enumerate(keeping_split(one, third, middle, many, column)):
                        for j, x in enumerate(line):
                            first[i, j, k] = x
                for i, line in enumerate(keeping_split(one, third, other, many, some_row(one, other, many, many))):
                    for j, inner in enumerate(keeping_split(third, middle, other, many, line)):
                        for k, x in enumerate(inner):
                            second[i, j, k] = x
                self.assertEqual(first, second, (told(one), told(middle), many))

    def test_plain_number_by_words(self):
        for book in (shut_book(5, 1), exchange_book(3, 2), bent_book(7), chance_book(2, 3, 4, 1), free_book(97, 3)):
            for many in range(4):
                size = (book.letters ** 2) ** many
                row = chance_row(size, 5 * book.prime, many)
                plain_pairs = [a * book.letters + a for a in range(book.letters)]
                wanted = sum(x for x, word in zip(row, plain.words(book.letters ** 2, many))
                             if all(pair in plain_pairs for pair in word))
                self.assertEqual(plain_number(book, many, row), wanted % book.prime)

    def test_fact_the_plain_number_of_nothing(self):
        some = 0
        for book in (shut_book(5, 1), exchange_book(3, 2), bent_book(7), chance_book(2, 3, 4, 1),
                     chance_book(3, 2, 2, 5)):
            keeping = keeping_book(book, book)
            for many in range(4):
                if keeping.letters ** many < 300:
                    for row in nothing_of(keeping, many):
                        some += 1
                        self.assertEqual(plain_number(book, many, row), 0)
        self.assertGreater(some, 50)

    def test_fact_plain_numbers_of_a_half_leave_the_rest(self):
        for one, _, other in threes():
            for many in range(4):
                if max(one.letters, other.letters) ** (2 * many) > 100:
                    continue
                row = some_row(one, other, many, many + 2)
                left = rest_of(keeping_book(one, other), many, row)
                halves = keeping_split(one, one, other, many, row)
                self.assertEqual(tuple(plain_number(one, many, column) for column in zip(*halves)), left)
                halves = keeping_split(one, other, other, many, row)
                self.assertEqual(tuple(plain_number(other, many, line) for line in halves), left)

    def test_by_hand(self):
        free = free_book(5, 1)
        self.assertEqual(keeping_split(free, free, free, 3, [7]), ((2,),))
        # (0, 0) is split into (0, 0) and (0, 0), (0, 1) and (1, 0).
        found = keeping_split(exchange_book(5, 1), free_book(5, 2), free, 1, [3])
        self.assertEqual(found, ((3, 0), (0, 3)))
        self.assertEqual(keeping_split(free, shut_book(5, 3), free, 0, [4]), ((4,),))
        # A cell of a letter whose square is nothing is nothing when followed by itself: so are its halves.
        self.assertEqual(keeping_split(shut_book(5, 1), free, free, 2, [1]), ((0,),))
        self.assertEqual(plain_number(free_book(3, 2), 1, [1, 9, 9, 4]), 2)
        self.assertEqual(plain_number(free_book(3, 3), 0, [5]), 2)
        self.assertEqual(plain_number(free_book(3, 1), 500, [5]), 2)
        book = exchange_book(5, 2)
        for spot in itertools.product((0, 3), repeat=2):
            self.assertEqual(plain_number(book, 2, unit_of(4, spot)), 1)
        self.assertEqual(plain_number(book, 2, unit_of(4, (0, 1))), 0)

    def test_greater_splits(self):
        book = chance_book(2, 3, 4, 1)
        halves = keeping_split(book, book, book, 3, [1] * 729)
        self.assertEqual((len(halves), len(halves[0])), (729, 729))
        left = tuple(plain_number(book, 3, line) for line in halves)
        self.assertEqual(left, tuple(plain_number(book, 3, column) for column in zip(*halves)))

    def test_wrong_inputs_in_sequence(self):
        one = free_book(3, 2)
        for wrong in BOOKS_NOT:
            self.refuses(NO_BOOK, keeping_split, wrong, None, None, None, None)
            self.refuses(NO_BOOK, keeping_split, free_book(3, 9), wrong, None, None, None)
            self.refuses(NO_BOOK, keeping_split, free_book(3, 9), free_book(2, 9), wrong, None, None)
            self.refuses(NO_BOOK, plain_number, wrong, None, None)
        for at in range(3):
            books = [free_book(3, 9)] * 3
            books[at] = free_book(2, 9)
            self.refuses(PRIME, keeping_split, *books, None, None)
        for books in ((free_book(3, 5), free_book(3, 1), one), (free_book(3, 5), one, free_book(3, 1)),
                      (free_book(3, 1), free_book(3, 5), one)):
            self.refuses(LETTERS, keeping_split, *books, None, None)
        for wrong in NUMBERS_NOT + (-1,):
            self.refuses(number("many"), keeping_split, one, one, one, wrong, None)
            self.refuses(number("many"), plain_number, one, wrong, None)
        few, many = free_book(3, 1), free_book(3, 3)
        for books in ((one, one, one), (one, few, one), (few, one, one), (one, one, few)):
            self.refuses(MANY, keeping_split, *books, 10, None)
        for books in ((many, few, many), (few, many, many), (many, many, few)):
            self.refuses(MANY, keeping_split, *books, 4, None)
            self.refuses("BadRow", keeping_split, *books, 3, None)
        for wrong in (None, 0, [], [1] * 3, [1] * 17, [1] * 15 + [True], "a" * 16):
            self.refuses("BadRow", keeping_split, one, one, one, 2, wrong)
            self.refuses("BadRow", plain_number, one, 2, wrong)
        for letters in range(4, 10):
            self.refuses(LETTERS, plain_number, free_book(3, letters), None, None)
        self.refuses(MANY, plain_number, many, 4, None)
        self.refuses(MANY, plain_number, one, 5, None)


if __name__ == "__main__":
    unittest.main()
