import unittest

from asking import MANY, NO_BOOK, NUMBERS_NOT, Asks, number
from ruleshadows.books import exchange_book, free_book, minus_book, shut_book
from ruleshadows.ladders import fits
from ruleshadows.rests import count
from ruleshadows.shadows import shadow
from ruleshadows.undoing import back_counts, counts_undo
from samples import bent_book, chance_book, heart_book, longest, small_books, told, told_book


class Undoing(Asks, unittest.TestCase):
    def test_by_its_own_words(self):
        for book in small_books():
            most = longest(book)
            b = back_counts(book, most)
            self.assertIsInstance(b, list)
            self.assertEqual((len(b), b[0]), (most + 1, 1))
            for length in range(1, most + 1):
                total = sum((-1) ** k * b[k] * count(book, length - k) for k in range(length + 1))
                self.assertEqual(total, 0, told(book))
            for bound in range(most + 1):
                self.assertEqual(back_counts(book, bound), b[:bound + 1])
                counts = [count(shadow(book), k) for k in range(bound + 1)]
                self.assertIs(counts_undo(book, bound), b[:bound + 1] == counts, told(book))
                self.assertIs(counts_undo(shadow(book), bound), b[:bound + 1] == counts, told(book))

    def test_known_numbers(self):
        self.assertEqual(back_counts(exchange_book(2, 3), 5), [1, 3, 3, 1, 0, 0])
        self.assertEqual(back_counts(minus_book(3, 2), 6), [1, 2, 3, 4, 5, 6, 7])
        self.assertEqual(back_counts(free_book(3, 2), 9), [1, 2] + [0] * 8)
        self.assertEqual(back_counts(shut_book(3, 9), 3), [1, 9, 81, 729])
        self.assertEqual(back_counts(shut_book(3, 1), 300), [1] * 301)
        self.assertEqual(back_counts(free_book(3, 4), 0), [1])
        self.assertEqual(back_counts(bent_book(3), 4), [1, 2, 2, 1, 0])
        ends = told_book(3, 2, [{(0, 0): 1, (1, 1): 1}, {(0, 1): 1}])
        self.assertEqual([count(ends, k) for k in range(5)], [1, 2, 2, 0, 0])
        self.assertEqual(back_counts(ends, 6), [1, 2, 2, 0, -4, -8, -8])

    def test_fitting_and_undoing(self):
        for book in small_books():
            most = longest(book)
            for bound in range(most + 1):
                if fits(book, bound):
                    self.assertIs(counts_undo(book, bound), True, told(book))
                if bound == 4 and counts_undo(book, 4):
                    self.assertIs(fits(book, 4), True, told(book))

    def test_heart_counts_do_not_tell_all(self):
        for prime in (2, 3, 5, 97):
            for q, r in ((1, 1), (prime - 1, 1), (1, prime - 1), (prime // 2 or 1, prime // 2 or 1)):
                book = heart_book(prime, q, r)
                self.assertEqual([count(book, k) for k in range(6)], [1, 3, 5, 9, 16, 29])
                self.assertEqual([count(shadow(book), k) for k in range(6)], [1, 3, 4, 6, 9, 14])
                self.assertIs(counts_undo(book, 5), True)
                self.assertIs(fits(book, 5), False)

    def test_some_do_not_undo(self):
        self.assertIs(counts_undo(bent_book(5), 4), False)
        self.assertIs(counts_undo(bent_book(5), 3), True)
        self.assertEqual(sorted({counts_undo(chance_book(3, 2, 2, seed), 4) for seed in range(20)}), [False, True])

    def test_wrong_inputs_in_sequence(self):
        for function in (back_counts, counts_undo):
            for wrong in (None, 1, "x", [exchange_book(3, 2)]):
                self.refuses(NO_BOOK, function, wrong, -1)
            for wrong in NUMBERS_NOT + (-1,):
                self.refuses(number("most"), function, exchange_book(3, 2), wrong)
            self.refuses(MANY, function, exchange_book(3, 2), 10)
            self.refuses(MANY, function, exchange_book(3, 9), 10 ** 9)


if __name__ == "__main__":
    unittest.main()
