import unittest

from asking import NO_BOOK, Asks
from ruleshadows.books import Rules, exchange_book, free_book
from ruleshadows.lowered import Lowered, unlowered
from samples import few_books, told, told_book


class LoweredBooks(Asks, unittest.TestCase):
    def test_attributes(self):
        book = told_book(5, 2, [{(0, 0): 2, (1, 1): 1}, {(0, 1): 1}])
        lowered = Lowered(book, [[6, -1], (0, 10)], (7, -5))
        self.assertEqual((lowered.book, lowered.sums, lowered.numbers), (book, ((1, 4), (0, 0)), (2, 0)))
        self.assertIsInstance(lowered.sums, tuple)
        self.assertTrue(all(isinstance(row, tuple) for row in lowered.sums))
        self.assertIsInstance(lowered.numbers, tuple)
        nothing = Lowered(free_book(2, 3), [], ())
        self.assertEqual((nothing.sums, nothing.numbers), ((), ()))

    def test_equal(self):
        book = exchange_book(3, 3)
        sums = [[1, 0, 0], [0, 2, 0], [0, 0, 1]]
        lowered = Lowered(book, sums, [0, 1, 2])
        again = Rules(3, 3, [[2 * x for x in row] for row in book.rules])
        self.assertEqual(lowered, Lowered(again, [[x + 3 for x in row] for row in sums], (3, -2, 5)))
        self.assertFalse(lowered != Lowered(book, sums, [0, 1, 2]))
        self.assertNotEqual(lowered, Lowered(book, sums, [0, 1, 1]))
        self.assertNotEqual(lowered, Lowered(book, sums[::-1], [0, 1, 2]))
        self.assertNotEqual(unlowered(exchange_book(3, 2)), unlowered(told_book(3, 2, [{(0, 0): 1}])))
        self.assertNotEqual(unlowered(free_book(3, 2)), unlowered(free_book(5, 2)))
        for other in (None, 0, "", book, (book, lowered.sums, lowered.numbers), [lowered]):
            self.assertNotEqual(lowered, other)
            self.assertNotEqual(other, lowered)

    def test_unlowered(self):
        for book in few_books():
            found = unlowered(book)
            self.assertEqual(found.book, book)
            self.assertEqual(found.sums, ((0,) * book.letters,) * len(book.rules), told(book))
            self.assertEqual(found.numbers, (0,) * len(book.rules))

    def test_wrong_inputs_in_sequence(self):
        book = exchange_book(3, 3)
        for wrong in (None, 0, "x", [book], unlowered(book)):
            self.refuses(NO_BOOK, Lowered, wrong, None, None)
            self.refuses(NO_BOOK, unlowered, wrong)
        for wrong in (None, 0, [], [[0, 0, 0]] * 2, [[0, 0, 0]] * 4, [[0, 0]] * 3, [[0, 0, 0], [0, 0, 0], [0, 0, True]],
                      [0] * 9, "abc", [[0, 0, 0], [0, 0, 0], None], {0: 1}, [[0, 0, 1.0]] * 3):
            self.refuses("BadRow", Lowered, book, wrong, [0, 0, 0])
        for wrong in (None, 0, [], [0, 0], [0] * 4, [0, 0, True], "abc", [[0]] * 3, [0, 0, None]):
            self.refuses("BadRow", Lowered, book, [[0, 0, 0]] * 3, wrong)
        self.refuses("BadRow", Lowered, free_book(3, 2), [], [0])
        self.refuses("BadRow", Lowered, free_book(3, 2), [[]], [])


if __name__ == "__main__":
    unittest.main()
