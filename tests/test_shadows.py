import unittest

import plain
from asking import NO_BOOK, Asks
from ruleshadows.books import (
    Rules, book_led, exchange_book, free_book, minus_book, read_back, shut_book, weighed_book)
from ruleshadows.shadows import common_rules, is_under, joined_rules, shadow
from samples import chance_book, chance_table, small_books, told, told_book


class Shadows(Asks, unittest.TestCase):
    def test_rules_of_the_shadow_tell_0_of_all_rules(self):
        for book in small_books():
            dark = plain.dark(book.prime, book.rules, book.letters ** 2)
            self.assertEqual(list(shadow(book).rules), dark, told(book))
            self.assertEqual(shadow(shadow(book)), book)
            self.assertEqual((shadow(book).prime, shadow(book).letters), (book.prime, book.letters))

    def test_books_that_are_shadows_of_one_another(self):
        for prime in (2, 3, 97):
            for letters in (1, 2, 4, 9):
                self.assertEqual(shadow(free_book(prime, letters)), shut_book(prime, letters))
                self.assertEqual(shadow(shut_book(prime, letters)), free_book(prime, letters))
                self.assertEqual(shadow(exchange_book(prime, letters)), minus_book(prime, letters))
                self.assertEqual(shadow(minus_book(prime, letters)), exchange_book(prime, letters))
        book = weighed_book(5, [[0, 0], [2, 1]])
        self.assertEqual(shadow(book), told_book(5, 2, [{(0, 0): 1}, {(0, 1): 1, (1, 0): 2}]))

    def test_led_and_read_back(self):
        for book in small_books():
            table = chance_table(book.prime, book.letters, 8)
            turned = plain.transposed(plain.undone(book.prime, table))
            self.assertEqual(shadow(book_led(book, table)), book_led(shadow(book), turned), told(book))
            self.assertEqual(shadow(read_back(book)), read_back(shadow(book)), told(book))

    def test_joined_and_common_rules(self):
        for prime, letters in ((2, 2), (3, 2), (5, 3), (2, 3)):
            for seed in range(6):
                one = chance_book(prime, letters, 1 + seed, seed)
                other = chance_book(prime, letters, letters + 1, seed + 50, thin=2)
                other = Rules(prime, letters, other.rules + one.rules[:1])
                size = letters ** 2
                joined, shared = joined_rules(one, other), common_rules(one, other)
                self.assertEqual(list(joined.rules), plain.gauss(prime, one.rules + other.rules))
                self.assertEqual(list(shared.rules), plain.common(prime, one.rules, other.rules, size))
                self.assertEqual(shadow(joined), common_rules(shadow(one), shadow(other)))
                self.assertEqual(shadow(shared), joined_rules(shadow(one), shadow(other)))
                self.assertIs(is_under(joined, other), True)
                self.assertIs(is_under(one, shared), True)
                self.assertIs(is_under(shared, one), len(shared.rules) == len(one.rules))
                self.assertIs(is_under(shadow(one), shadow(joined)), True)

    def test_is_under_asks_for_the_rules_of_the_second_one(self):
        few, many = exchange_book(3, 2), joined_rules(exchange_book(3, 2), told_book(3, 2, [{(0, 0): 1}]))
        self.assertIs(is_under(many, few), True)
        self.assertIs(is_under(few, many), False)
        self.assertIs(is_under(few, few), True)
        self.assertIs(is_under(free_book(2, 1), free_book(2, 1)), True)

    def test_wrong_books(self):
        book = exchange_book(3, 2)
        for wrong in (None, 1, "x", [book], book.rules):
            self.refuses(NO_BOOK, shadow, wrong)
            for function in (is_under, joined_rules, common_rules):
                self.refuses(NO_BOOK, function, wrong, book)
                self.refuses(NO_BOOK, function, book, wrong)
        for function in (is_under, joined_rules, common_rules):
            self.refuses(("BadBook", "prime"), function, book, exchange_book(5, 2))
            self.refuses(("BadBook", "prime"), function, book, exchange_book(5, 3))
            self.refuses(("BadBook", "letters"), function, book, exchange_book(3, 3))


if __name__ == "__main__":
    unittest.main()
