import unittest

from asking import MANY, NO_BOOK, Asks
from ruleshadows.books import Rules, book_led, exchange_book, free_book, minus_book, shut_book
from ruleshadows.ladders import fits
from ruleshadows.orders import heads
from ruleshadows.settled import is_tidy
from ruleshadows.trials import first_tidy, tidy_orders
from ruleshadows.webs import web_book
from samples import Numbers, bent_book, chance_book, heart_book, small_books, told, told_book
from test_orders import orders
from tidysamples import bent_along, word_books


class Trials(Asks, unittest.TestCase):
    def test_all_orders_by_which_a_book_is_tidy(self):
        some = {True: 0, False: 0}
        for book in small_books() + word_books():
            found = tidy_orders(book)
            self.assertIsInstance(found, list)
            wanted = [tuple(order) for order in orders(book.letters) if is_tidy(book, order)]
            self.assertEqual(found, wanted, told(book))
            self.assertEqual(first_tidy(book), found[0] if found else None)
            some[bool(found)] += 1
        self.assertTrue(some[True] > 20 and some[False] > 20)

    def test_examples(self):
        self.assertEqual(tidy_orders(free_book(3, 1)), [(0,)])
        self.assertEqual(tidy_orders(exchange_book(3, 2)), [(0, 1), (1, 0)])
        self.assertEqual(tidy_orders(bent_book(5)), [])
        self.assertIsNone(first_tidy(bent_book(5)))
        self.assertIsNone(first_tidy(heart_book(2, 1, 1)))
        # 00 less 01: with the head 00 the word 000 is an overlap that is not settled, with the head 01 there is none.
        self.assertEqual(tidy_orders(told_book(3, 2, [{(0, 0): 1, (0, 1): -1}])), [(1, 0)])
        self.assertEqual(first_tidy(told_book(3, 2, [{(0, 0): 1, (0, 1): -1}])), (1, 0))
        # Three in a row: the one between its neighbours is not in the middle of the order.
        book = web_book(5, 3, [[0, 1, 1], [1, 2, 1]], [])
        self.assertEqual(tidy_orders(book), [(0, 2, 1), (1, 0, 2), (1, 2, 0), (2, 0, 1)])
        self.assertEqual(first_tidy(book), (0, 2, 1))

    def test_six_letters(self):
        for book in (exchange_book(97, 6), minus_book(2, 6), free_book(3, 6), shut_book(3, 6)):
            self.assertEqual(len(tidy_orders(book)), 720)
            self.assertEqual(first_tidy(book), (0, 1, 2, 3, 4, 5))
        book = chance_book(97, 6, 18, 3)
        self.assertEqual(tidy_orders(book), [])
        self.assertIsNone(first_tidy(book))

    def test_fact_led_to_letters_behind(self):
        for seed, book in enumerate(small_books()):
            for order in orders(book.letters)[-3:]:
                other = bent_along(book, order, seed)
                self.assertEqual(heads(other, order), heads(book, order), (told(book), order))
                self.assertIs(is_tidy(other, order), is_tidy(book, order), (told(book), order))

    def test_fact_led_to_other_names(self):
        for seed, book in enumerate(small_books() + word_books()):
            numbers = Numbers(seed)
            names = orders(book.letters)[numbers.below(len(orders(book.letters)))]
            other = book_led(book, [[int(at == names[a]) for at in range(book.letters)] for a in range(book.letters)])
            wanted = sorted(tuple(names[letter] for letter in order) for order in tidy_orders(book))
            self.assertEqual(tidy_orders(other), wanted, (told(book), names))

    def test_fact_a_book_that_fits_need_not_be_tidy(self):
        ring = web_book(3, 5, [[0, 1, 1], [1, 2, 1], [2, 3, 2], [3, 4, 1], [0, 4, 2]], [1])
        self.assertEqual(tidy_orders(ring), [])
        self.assertIsNone(first_tidy(ring))
        self.assertIs(fits(ring, 4), True)

    def test_wrong_inputs_in_sequence(self):
        for function in (tidy_orders, first_tidy):
            for wrong in (None, 0, "x", [free_book(2, 1)]):
                self.refuses(NO_BOOK, function, wrong)
            for letters in (7, 8, 9):
                self.refuses(MANY, function, free_book(2, letters))
                self.refuses(MANY, function, Rules(5, letters, [[1] * letters * letters]))


if __name__ == "__main__":
    unittest.main()
