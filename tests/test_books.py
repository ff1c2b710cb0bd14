import unittest

import plain
from asking import NO_BOOK, NUMBERS_NOT, Asks, number
from ruleshadows.books import (
    Rules, book_led, exchange_book, free_book, minus_book, read_back, shut_book, weighed_book)
from samples import chance_book, chance_table, few_books, told, told_book

PRIMES = [p for p in range(2, 98) if all(p % k for k in range(2, p))]


class Books(Asks, unittest.TestCase):
    def test_rules_are_told_by_their_tidy_list(self):
        book = Rules(5, 2, [[0, 2, -2, 5], (0, 0, 0, 10), [1, 1, 0, 0]])
        self.assertEqual((book.prime, book.letters), (5, 2))
        self.assertEqual(book.rules, ((1, 0, 1, 0), (0, 1, 4, 0)))
        self.assertEqual(Rules(2, 1, []).rules, ())
        self.assertEqual(Rules(2, 1, [[2]]).rules, ())
        self.assertEqual(Rules(2, 1, ((3,),)).rules, ((1,),))
        for prime in PRIMES:
            self.assertEqual(Rules(prime, 9, []).prime, prime)
        for book in few_books():
            self.assertEqual(list(book.rules), plain.gauss(book.prime, book.rules))
            self.assertIsInstance(book.rules, tuple)

    def test_equal_books(self):
        book = Rules(3, 2, [[1, 0, 2, 0]])
        self.assertEqual(book, Rules(3, 2, ((2, 3, 1, 0), (0, 0, 0, 0))))
        self.assertFalse(book != Rules(3, 2, [[1, 0, 2, 0]]))
        self.assertNotEqual(book, Rules(5, 2, [[1, 0, 2, 0]]))
        self.assertNotEqual(book, Rules(3, 2, [[1, 0, 1, 0]]))
        self.assertNotEqual(Rules(3, 2, []), Rules(3, 1, []))
        for other in (None, 3, "", (3, 2, book.rules), [], [book], book.rules):
            self.assertNotEqual(book, other)
            self.assertNotEqual(other, book)

    def test_wrong_rules(self):
        for wrong in NUMBERS_NOT + (0, 1, 9, 98, 101):
            self.refuses("BadPrime", Rules, wrong, 0, None)
        for wrong in NUMBERS_NOT + (0, 10, -2):
            self.refuses(number("letters"), Rules, 3, wrong, None)
        for wrong in (None, 0, "", [1, 2, 3, 4], [[1, 2, 3]], [[1, 2, 3, 4, 5]], [[1, 2, 3, False]], [(0,) * 4, None]):
            self.refuses("BadRow", Rules, 3, 2, wrong)

    def test_named_books(self):
        for prime in (2, 3, 97):
            for letters in (1, 2, 3, 9):
                pairs = [(a, b) for b in range(letters) for a in range(b)]
                self.assertEqual(free_book(prime, letters), Rules(prime, letters, []))
                self.assertEqual(shut_book(prime, letters), Rules(prime, letters, plain.identity(letters ** 2)))
                self.assertEqual(exchange_book(prime, letters),
                                 told_book(prime, letters, [{(a, b): 1, (b, a): -1} for a, b in pairs]))
                self.assertEqual(minus_book(prime, letters), told_book(
                    prime, letters,
                    [{(a, b): 1, (b, a): 1} for a, b in pairs] + [{(a, a): 1} for a in range(letters)]))

    def test_wrong_named_books(self):
        for function in (free_book, shut_book, exchange_book, minus_book):
            for wrong in NUMBERS_NOT + (4,):
                self.refuses("BadPrime", function, wrong, 0)
            for wrong in NUMBERS_NOT + (0, 10):
                self.refuses(number("letters"), function, 5, wrong)

    def test_weighed_book(self):
        weights = [[0, 9, 9], [2, 6, 9], [-1, 3, 5]]
        self.assertEqual(weighed_book(5, weights), told_book(5, 3, [
            {(1, 0): 1, (0, 1): -2}, {(2, 0): 1, (0, 2): 1}, {(2, 1): 1, (1, 2): -3}, {(1, 1): 1}]))
        self.assertEqual(weighed_book(2, [[2]]), free_book(2, 1))
        self.assertEqual(weighed_book(2, [[1]]), shut_book(2, 1))
        self.assertEqual(weighed_book(3, [[0] * 4, [1, 0, 0, 0], [1, 1, 0, 0], [1, 1, 1, 0]]), exchange_book(3, 4))
        self.assertEqual(weighed_book(7, [[1, 0], [-1, 1]]), minus_book(7, 2))
        self.assertEqual(len(weighed_book(7, [[1] * 9] * 9).rules), 45)

    def test_wrong_weights(self):
        for wrong in NUMBERS_NOT + (0, 100):
            self.refuses("BadPrime", weighed_book, wrong, None)
        for wrong in (None, [], 1, "a", [1], [[1, 2]], [[1], [2]], [[1, 1], [1, True]], [[1] * 10] * 10, {0: [1]},
                      [[0, 1], [0, 0]], [[0, 1], [3, 0]], [[0, 1, 1], [1, 0, 1], [1, -6, 0]]):
            self.refuses("BadTable", weighed_book, 3, wrong)

    def test_book_led(self):
        for book in few_books():
            for seed in (1, 2):
                table = chance_table(book.prime, book.letters, seed)
                rows = [plain.led(book.prime, book.letters, 2, row, table) for row in book.rules]
                made = book_led(book, table)
                self.assertEqual(made, Rules(book.prime, book.letters, rows), told(book))
                self.assertEqual(book_led(made, plain.undone(book.prime, table)), book, told(book))
        book = told_book(3, 2, [{(0, 1): 1}])
        self.assertEqual(book_led(book, [[0, 1], [1, 0]]), told_book(3, 2, [{(1, 0): 1}]))
        self.assertEqual(book_led(book, [[1, 1], [0, 2]]), told_book(3, 2, [{(0, 1): 2, (1, 1): 2}]))

    def test_wrong_tables(self):
        for wrong in (None, 1, "ab", (2, 1, ()), [], exchange_book):
            self.refuses(NO_BOOK, book_led, wrong, None)
            self.refuses(NO_BOOK, read_back, wrong)
        for wrong in (None, [], [[1, 0]], [[1, 0], [2, 0]], [[0, 0], [0, 0]], [[1, 1], [1, 4]], [[1, 0], [0, 3]],
                      [[1, 0, 0], [0, 1, 0]], [[1, 0], [0, True]], [1, 0, 0, 1], [[1, 0], [0, 1], [1, 1]], "ab"):
            self.refuses("BadTable", book_led, exchange_book(3, 2), wrong)

    def test_read_back(self):
        book = told_book(5, 2, [{(0, 1): 1, (1, 1): 3}])
        self.assertEqual(read_back(book), told_book(5, 2, [{(1, 0): 1, (1, 1): 3}]))
        for book in few_books():
            self.assertEqual(read_back(read_back(book)), book)
        self.assertNotEqual(read_back(chance_book(5, 3, 2, 1)), chance_book(5, 3, 2, 1))
        self.assertEqual(read_back(exchange_book(3, 4)), exchange_book(3, 4))


if __name__ == "__main__":
    unittest.main()
