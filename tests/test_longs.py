import unittest

import plain
from asking import MANY, NUMBERS_NOT, Asks, number
from lowersamples import long_words, lowered_rules, some_lowered, spelled, told_lowered
from ruleshadows.books import exchange_book, free_book
from ruleshadows.longs import long_cut, long_joined, long_place, long_rules, long_size, long_word, lowered_from
from ruleshadows.lowered import Lowered, unlowered
from samples import Numbers, told_book

NO_LOWER = (None, 0, True, "x", exchange_book(3, 2), [], [unlowered(free_book(2, 1))])


class Longs(Asks, unittest.TestCase):
    def test_sizes_places_and_words(self):
        for letters, most in ((1, 9), (2, 6), (3, 4), (4, 3), (9, 2)):
            for length in range(most + 1):
                every = long_words(letters, length)
                self.assertEqual(long_size(letters, length), len(every))
                for place, word in enumerate(every):
                    self.assertEqual(long_place(letters, length, word), place)
                    self.assertEqual(long_word(letters, length, place), word)
        self.assertEqual([long_size(2, k) for k in range(5)], [1, 3, 7, 15, 31])
        self.assertEqual(long_size(2, 8), 511)
        self.assertEqual(long_size(9, 3), 820)
        self.assertEqual(long_size(1, 999), 1000)
        self.assertEqual(long_place(2, 8, ()), 510)
        self.assertEqual(long_place(1, 999, (0,) * 7), 992)
        self.assertEqual(long_word(1, 999, 992), (0,) * 7)
        self.assertEqual(long_word(9, 3, 0), (0, 0, 0))

    def test_too_many(self):
        far = 10 ** 12
        for letters, length in ((1, 1000), (2, 9), (3, 6), (4, 5), (5, 5), (6, 4), (9, 4), (1, far), (9, far)):
            self.refuses(MANY, long_size, letters, length)
            self.refuses(MANY, long_place, letters, length, None)
            self.refuses(MANY, long_word, letters, length, None)
            self.refuses(MANY, long_cut, 2, letters, length, None)
        for letters, length in ((3, 5), (4, 4), (5, 4), (6, 3), (8, 3)):
            self.assertLessEqual(long_size(letters, length), 1000)

    def test_cut_and_joined(self):
        numbers = Numbers(3)
        for prime, letters, length in ((2, 1, 5), (3, 2, 4), (97, 3, 3), (5, 9, 2), (7, 2, 0)):
            long = numbers.row(long_size(letters, length), 3 * prime)
            rows = long_cut(prime, letters, length, long)
            self.assertIsInstance(rows, tuple)
            self.assertEqual([len(row) for row in rows], [letters ** k for k in range(length + 1)])
            told = {word: x % prime for word, x in zip(long_words(letters, length), long)}
            for k, row in enumerate(rows):
                self.assertIsInstance(row, tuple)
                self.assertEqual(row, tuple(told[word] for word in plain.words(letters, k)))
            self.assertEqual(long_joined(prime, letters, rows), tuple(x % prime for x in long))
            self.assertEqual(long_joined(prime, letters, [list(row) for row in rows]), tuple(x % prime for x in long))
        self.assertEqual(long_cut(5, 2, 2, [1, 2, 3, 4, 5, 6, 7]), ((2,), (0, 1), (1, 2, 3, 4)))
        self.assertEqual(long_joined(5, 2, [[7], [5, 6]]), (0, 1, 2))
        self.assertEqual(long_joined(5, 9, [[-1]]), (4,))
        self.assertEqual(len(long_joined(2, 1, [[1]] * 1000)), 1000)

    def test_long_rules(self):
        for lowered in some_lowered():
            letters, prime = lowered.book.letters, lowered.book.prime
            wanted = tuple(tuple(x % prime for x in spelled(letters, 2, rule)) for rule in lowered_rules(lowered))
            self.assertEqual(long_rules(lowered), wanted, told_lowered(lowered))
        book = exchange_book(5, 2)
        self.assertEqual(long_rules(Lowered(book, [[1, 2]], [3])), ((0, 1, 4, 0, 4, 3, 2),))
        self.assertEqual(long_rules(unlowered(free_book(5, 2))), ())

    def test_lowered_from(self):
        for seed, lowered in enumerate(some_lowered()):
            prime, letters = lowered.book.prime, lowered.book.letters
            longs = long_rules(lowered)
            self.assertEqual(lowered_from(prime, letters, longs), lowered, told_lowered(lowered))
            # The same sums of multiples, told by other rows, and one of them told twice.
            numbers = Numbers(seed)
            mixed = [list(longs[-1])] if longs else []
            for k, row in enumerate(longs):
                factor = 1 + numbers.below(prime - 1)
                mixed.append([factor * x + y for x, y in zip(row, longs[k - 1])] if k else [factor * x for x in row])
            self.assertEqual(lowered_from(prime, letters, mixed[::-1]), lowered)
        book = told_book(5, 2, [{(0, 0): 1, (0, 1): 1}, {(1, 1): 1}])
        self.assertEqual(lowered_from(5, 2, [[2, 2, 0, 0, 0, 0, -2], [0, 0, 0, 1, 1, 0, 0]]),
                         Lowered(book, [[0, 0], [-1, 0]], [1, 0]))
        self.assertEqual(lowered_from(5, 2, []), unlowered(free_book(5, 2)))
        self.assertEqual(lowered_from(5, 1, [[0, 0, 5]]), unlowered(free_book(5, 1)))

    def test_lower_parts_alone(self):
        for longs in ([[0, 0, 0, 0, 0, 0, 1]], [[0, 0, 0, 5, 1, 0, 0]], [[1, 0, 0, 0, 1, 0, 0], [2, 0, 0, 0, 0, 0, 0]],
                      [[0, 1, 0, 0, 0, 0, 0], [0, 0, 1, 0, 0, 0, 0], [0, 1, 1, 0, 0, 0, 3]]):
            self.refuses("BadLower", lowered_from, 5, 2, longs)
        self.assertEqual(lowered_from(5, 2, [[1, 0, 0, 0, 1, 0, 0], [2, 0, 0, 0, 2, 0, 0]]).sums, ((4, 0),))

    def test_wrong_inputs_in_sequence(self):
        for wrong in NUMBERS_NOT + (0, 10):
            self.refuses(number("letters"), long_size, wrong, -1)
            self.refuses(number("letters"), long_place, wrong, -1, None)
            self.refuses(number("letters"), long_word, wrong, -1, None)
            self.refuses(number("letters"), long_cut, 2, wrong, -1, None)
            self.refuses(number("letters"), long_joined, 2, wrong, None)
            self.refuses(number("letters"), lowered_from, 2, wrong, None)
        for wrong in NUMBERS_NOT + (-1,):
            self.refuses(number("length"), long_size, 2, wrong)
            self.refuses(number("length"), long_place, 2, wrong, None)
            self.refuses(number("length"), long_word, 2, wrong, None)
            self.refuses(number("length"), long_cut, 2, 2, wrong, None)
        for wrong in NUMBERS_NOT + (0, 4, 99):
            self.refuses("BadPrime", long_cut, wrong, 0, -1, None)
            self.refuses("BadPrime", long_joined, wrong, 0, None)
            self.refuses("BadPrime", lowered_from, wrong, 0, None)
        for wrong in (None, 0, [0], "0", (2,), (-1,), (True,), (0, 0, 0), (0,) * 2000, (0, None), {0}):
            self.refuses("BadWord", long_place, 2, 2, wrong)
        for wrong in NUMBERS_NOT + (-1, 7):
            self.refuses(number("place"), long_word, 2, 2, wrong)
        for wrong in (None, 0, [1] * 6, [1] * 8, [1] * 6 + [True], "abcdefg", [[1]] * 7, {}):
            self.refuses("BadRow", long_cut, 2, 2, 2, wrong)
            self.refuses("BadRow", lowered_from, 2, 2, [wrong])
            self.refuses("BadRow", lowered_from, 2, 2, [[0] * 7, wrong])
        for wrong in (None, 0, [], (), [1], [[]], [[1], [1]], [[1], [1, 2, 3]], [[1, 2]], [[1], [1, True]],
                      [[1], [1, 2], [1, 2]], {0: [1]}, "a"):
            self.refuses("BadRow", long_joined, 2, 2, wrong)
        self.refuses("BadRow", lowered_from, 2, 2, None)
        self.refuses("BadRow", lowered_from, 2, 2, 0)

    def test_joined_tells_wrong_rows_ahead_of_too_many(self):
        self.refuses(MANY, long_joined, 2, 1, [[1]] * 1001)
        self.refuses("BadRow", long_joined, 2, 1, [[1]] * 1001 + [[1, 1]])
        self.refuses(MANY, long_joined, 2, 2, [[0] * 2 ** k for k in range(10)])
        self.refuses("BadRow", long_joined, 2, 2, [[0] * 2 ** k for k in range(9)] + [[0] * 511])

    def test_wrong_lowered(self):
        for wrong in NO_LOWER:
            self.refuses("BadLower", long_rules, wrong)


if __name__ == "__main__":
    unittest.main()
