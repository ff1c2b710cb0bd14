import itertools
import unittest

import plain
from asking import NO_BOOK, NUMBERS_NOT, Asks, number
from keepsamples import all_tables
from ruleshadows.books import Rules, book_led, exchange_book, free_book, minus_book, shut_book
from ruleshadows.classes import least_led, led_many, two_classes
from ruleshadows.ladders import fits
from ruleshadows.maps import keepers
from ruleshadows.rests import count
from ruleshadows.shadows import shadow
from ruleshadows.twos import kinds_of
from samples import bent_book, chance_book, chance_table, told, told_book

MANY = ("TooMany", 700)
BOOKS_NOT = (None, 0, "x", [free_book(2, 1)], (2, 1, ()))


def some_books():
    return [free_book(97, 1), shut_book(97, 1), free_book(2, 2), exchange_book(2, 2), minus_book(2, 2), bent_book(2),
            chance_book(2, 2, 2, 1), chance_book(2, 2, 3, 2), exchange_book(3, 2), bent_book(3),
            chance_book(3, 2, 1, 3), chance_book(3, 2, 2, 4), chance_book(5, 2, 1, 5), chance_book(5, 2, 2, 6),
            bent_book(5), exchange_book(2, 3), told_book(2, 3, [{(0, 1): 1}, {(1, 2): 1}]), chance_book(2, 3, 4, 7),
            minus_book(3, 2)]


def led_books(book):
    """The rules of all books that it is led to, by all tables that can be undone."""
    letters = book.letters
    return {book_led(book, table).rules for table in all_tables(book.prime, letters, letters)
            if plain.rank(book.prime, table) == letters}


def all_rooms(prime, many):
    """The rules of each book of two letters with so many rules."""
    rows = list(itertools.product(range(prime), repeat=4))
    found = {Rules(prime, 2, some).rules for some in itertools.combinations(rows, many)} if many < 3 else {
        shadow(Rules(prime, 2, rules)).rules for rules in all_rooms(prime, 4 - many)}
    return sorted(rules for rules in found if len(rules) == many)


class Classes(Asks, unittest.TestCase):
    def test_by_trying_all_tables(self):
        for book in some_books():
            if book.prime > 5:
                continue
            wanted = led_books(book)
            found = least_led(book)
            self.assertTrue(isinstance(found, tuple) and all(isinstance(row, tuple) for row in found))
            self.assertEqual(found, min(wanted), told(book))
            self.assertEqual(led_many(book), len(wanted), told(book))

    def test_facts(self):
        for book in some_books():
            table = chance_table(book.prime, book.letters, 3)
            self.assertEqual(least_led(book_led(book, table)), least_led(book))
            self.assertEqual(led_many(book_led(book, table)), led_many(book))
            self.assertEqual(led_many(shadow(book)), led_many(book))
            if book.prime < 5:
                many = len([table for table in all_tables(book.prime, book.letters, book.letters)
                            if plain.rank(book.prime, table) == book.letters])
                self.assertEqual(led_many(book) * len(keepers(book)), many, told(book))
            for other in some_books():
                if (other.prime, other.letters) == (book.prime, book.letters) and book.prime < 5:
                    self.assertIs(least_led(book) == least_led(other), other.rules in led_books(book))

    def test_two_classes_by_all_books(self):
        for prime in (2, 3):
            for many in range(5):
                rooms = all_rooms(prime, many)
                wanted = {}
                for rules in rooms:
                    least = min(led_books(Rules(prime, 2, rules))) if prime == 2 else least_led(Rules(prime, 2, rules))
                    wanted[least] = wanted.get(least, 0) + 1
                found = two_classes(prime, many)
                self.assertTrue(isinstance(found, list) and all(isinstance(pair, tuple) for pair in found))
                self.assertEqual(found, sorted(wanted.items()), (prime, many))

    def test_facts_of_two_classes(self):
        for prime in (2, 3, 5):
            all_of_one = 1 + prime + prime ** 2 + prime ** 3
            wanted = [1, 5 if prime == 2 else prime + 4, 10 if prime == 2 else 3 * prime + 5,
                      5 if prime == 2 else prime + 4, 1]
            books = [1, all_of_one, (prime ** 2 + 1) * (prime ** 2 + prime + 1), all_of_one, 1]
            for many in range(5):
                found = two_classes(prime, many)
                self.assertEqual(len(found), wanted[many])
                self.assertEqual(sum(times for _, times in found), books[many])
                darks = sorted((least_led(shadow(Rules(prime, 2, rules))), times) for rules, times in found)
                self.assertEqual(darks, two_classes(prime, 4 - many))
            self.assertEqual(sorted(times for _, times in two_classes(prime, 1)),
                             sorted(times for _, times in kinds_of(prime)))

    def test_heart_which_classes_of_two_rules_fit(self):
        for prime in (2, 3, 5):
            some = 0
            for rules, _ in two_classes(prime, 2):
                book = Rules(prime, 2, rules)
                found = fits(book, 4)
                some += found
                self.assertIs(found, count(book, 3) == 2, told(book))
                if found:
                    self.assertEqual([count(book, length) for length in range(1, 8)], [2] * 7)
            self.assertEqual(some, 7 if prime == 2 else prime + 5)

    def test_examples(self):
        self.assertEqual(two_classes(3, 0), [((), 1)])
        self.assertEqual(two_classes(5, 4), [(tuple(plain.identity(4)), 1)])
        self.assertEqual(two_classes(2, 1), [
            (((0, 0, 0, 1),), 3), (((0, 0, 1, 0),), 6), (((0, 1, 1, 0),), 1), (((0, 1, 1, 1),), 3),
            (((1, 0, 1, 1),), 2)])
        self.assertEqual(least_led(shut_book(97, 1)), ((1,),))
        self.assertEqual(led_many(free_book(97, 1)), 1)
        self.assertEqual(least_led(told_book(5, 2, [{(0, 0): 1}])), ((0, 0, 0, 1),))
        self.assertEqual(led_many(told_book(5, 2, [{(0, 0): 1}])), 6)
        self.assertEqual(led_many(exchange_book(2, 3)), 1)

    def test_wrong_inputs_in_sequence(self):
        for function in (least_led, led_many):
            for wrong in BOOKS_NOT:
                self.refuses(NO_BOOK, function, wrong)
            for prime, letters in ((7, 2), (97, 2), (3, 3), (2, 4), (97, 9)):
                self.refuses(MANY, function, free_book(prime, letters))
        for wrong in NUMBERS_NOT + (0, 1, 4, 98, 101):
            self.refuses("BadPrime", two_classes, wrong, None)
        for wrong in NUMBERS_NOT + (-1, 5):
            self.refuses(number("many"), two_classes, 97, wrong)
        for prime in (7, 11, 97):
            self.refuses(("TooMany", 5), two_classes, prime, 0)


if __name__ == "__main__":
    unittest.main()
