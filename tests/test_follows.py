import unittest

from asking import MANY, NUMBERS_NOT, Asks, number
from ruleshadows.books import exchange_book, free_book, minus_book, shut_book
from ruleshadows.follows import count_far, count_long, follows
from ruleshadows.orders import plain_words
from ruleshadows.rests import count
from samples import bent_book, longest, small_books, told, told_book
from test_orders import orders, wrong_orders
from tidysamples import tidy_pairs, word_books


class Follows(Asks, unittest.TestCase):
    def test_follows_by_its_own_words(self):
        for book in small_books() + word_books():
            for order in orders(book.letters)[-3:]:
                some = plain_words(book, order, 2)
                wanted = tuple(tuple(int((a, b) in some) for b in range(book.letters)) for a in range(book.letters))
                self.assertEqual(follows(book, order), wanted, (told(book), order))
        self.assertEqual(follows(exchange_book(3, 2), [0, 1]), ((1, 0), (1, 1)))
        self.assertEqual(follows(exchange_book(3, 2), (1, 0)), ((1, 1), (0, 1)))
        self.assertEqual(follows(bent_book(3), [0, 1]), ((0, 1), (0, 1)))

    def test_counts_by_the_rests(self):
        for book, order in tidy_pairs(2):
            for length in range(longest(book) + 2):
                many = count(book, length)
                self.assertEqual(count_long(book, order, length), many, (told(book), order))
                self.assertEqual(count_far(book, order, length, 10 ** 30), many)
                self.assertEqual(count_far(book, order, length, 3), many % 3)
                self.assertEqual(count_far(book, order, length, 1), 0)

    def test_long_counts(self):
        gold = told_book(3, 2, [{(0, 0): 1}])
        numbers = [1, 2]
        while len(numbers) < 1001:
            numbers.append(numbers[-1] + numbers[-2])
        for length in (0, 1, 10, 100, 999, 1000):
            self.assertEqual(count_long(gold, [0, 1], length), numbers[length])
            self.assertEqual(count_far(gold, [1, 0], length, 10 ** 30), numbers[length] % 10 ** 30)
            self.assertEqual(count_far(gold, [1, 0], length, 12345), numbers[length] % 12345)
            self.assertEqual(count_long(free_book(2, 9), list(range(9)), length), 9 ** length)
        self.assertEqual(count_long(exchange_book(5, 3), [0, 1, 2], 1000), 1001 * 1002 // 2)
        self.assertEqual(count_long(minus_book(5, 4), [0, 1, 2, 3], 1000), 0)
        self.assertEqual(count_long(shut_book(5, 1), [0], 2), 0)
        self.assertEqual(count_long(free_book(5, 1), [0], 1000), 1)

    def test_far_counts(self):
        far = 10 ** 30
        self.assertEqual(count_far(free_book(2, 9), list(range(9)), far, far), pow(9, far, far))
        self.assertEqual(count_far(free_book(2, 7), list(range(7)), far - 1, 10 ** 9 + 7), pow(7, far - 1, 10 ** 9 + 7))
        self.assertEqual(count_far(exchange_book(2, 2), [1, 0], far, far), 1)
        self.assertEqual(count_far(exchange_book(2, 2), [1, 0], far - 7, far), far - 6)
        self.assertEqual(count_far(minus_book(2, 2), [1, 0], far, 7), 0)
        self.assertEqual(count_far(free_book(2, 1), [0], far, 7), 1)
        self.assertEqual(count_far(free_book(2, 1), [0], 0, 1), 0)
        self.assertEqual(count_far(free_book(2, 3), [0, 1, 2], 1, 2), 1)
        # The counts of the rule 00 modulo 11 come back after 10 steps.
        gold = told_book(3, 2, [{(0, 0): 1}])
        self.assertEqual(count_far(gold, [0, 1], 10 ** 29 + 3, 11), count_long(gold, [0, 1], 3) % 11)

    def test_wrong_inputs_in_sequence(self):
        book = exchange_book(3, 2)
        wrong_orders(self, follows, book)
        wrong_orders(self, count_long, book, -1)
        wrong_orders(self, count_far, book, -1, 0)
        self.refuses("NotTidy", count_long, bent_book(3), [0, 1], -1)
        self.refuses("NotTidy", count_far, bent_book(3), [0, 1], -1, 0)
        for wrong in NUMBERS_NOT + (-1,):
            self.refuses(number("length"), count_long, book, [0, 1], wrong)
        for wrong in NUMBERS_NOT + (-1, 10 ** 30 + 1):
            self.refuses(number("length"), count_far, book, [0, 1], wrong, 0)
        for wrong in NUMBERS_NOT + (-1, 0, 10 ** 30 + 1):
            self.refuses(number("modulo"), count_far, book, [0, 1], 3, wrong)
        self.refuses(MANY, count_long, book, [0, 1], 1001)
        self.refuses(MANY, count_long, free_book(3, 1), [0], 10 ** 30)


if __name__ == "__main__":
    unittest.main()
