import unittest

import plain
from asking import Asks, number
from lowersamples import chance_lowered, losing_example, lowered_rules, some_lowered, told_lowered
from ruleshadows.books import Rules, exchange_book, free_book, shut_book
from ruleshadows.families import form_lowered, twist_lowered
from ruleshadows.ladders import fits
from ruleshadows.losses import loss
from ruleshadows.lowered import Lowered, unlowered
from ruleshadows.raised import raised
from ruleshadows.rests import count
from ruleshadows.upto import count_up_to
from samples import bent_book, chance_book, few_books, told_book
from test_longs import NO_LOWER


def plainly_raised(lowered):
    """The book with a letter more, word by word: each word of a lowered rule is filled up to two letters by it."""
    more = lowered.book.letters
    rules = [{word + (more,) * (2 - len(word)): x for word, x in rule.items()} for rule in lowered_rules(lowered)]
    return told_book(lowered.book.prime, more + 1, rules + [{(a, more): 1, (more, a): -1} for a in range(more)])


def longest(book):
    return {2: 6, 3: 5, 4: 4, 5: 4}[book.letters]


class Raised(Asks, unittest.TestCase):
    def test_word_by_word(self):
        for lowered in some_lowered():
            found = raised(lowered)
            self.assertIsInstance(found, Rules)
            self.assertEqual(found, plainly_raised(lowered), told_lowered(lowered))

    def test_heart_counts(self):
        some = 0
        for lowered in some_lowered():
            book = raised(lowered)
            for length in range(longest(book) + 1):
                self.assertEqual(count(book, length), count_up_to(lowered, length), (told_lowered(lowered), length))
            some += loss(lowered, 3) != 0
        self.assertGreater(some, 10)

    def test_counts_by_full_rows(self):
        for lowered in (losing_example(3), form_lowered(5, [[1, 2], [0, 3]]), chance_lowered(bent_book(2), 4)):
            book = raised(lowered)
            for length in range(5):
                wanted = len(plain.rest_words(book.prime, book.letters, book.rules, length))
                self.assertEqual(count_up_to(lowered, length), wanted)

    def test_heart_fits_as_far_as_the_book_where_nothing_is_lost(self):
        some = {True: 0, False: 0}
        for lowered in some_lowered() + [unlowered(book) for book in few_books()]:
            book = raised(lowered)
            for length in range(longest(book) + 1):
                if loss(lowered, length) == 0:
                    found = fits(book, length)
                    some[found] += 1
                    self.assertIs(found, fits(lowered.book, length), (told_lowered(lowered), length))
        self.assertTrue(some[True] > 100 and some[False] > 3, some)

    def test_by_hand(self):
        # ab less ba is twice the letter a, and 3.
        found = raised(Lowered(exchange_book(5, 2), [[2, 0]], [3]))
        self.assertEqual(found, told_book(5, 3, [{(0, 1): 1, (1, 0): -1, (0, 2): -2, (2, 2): -3},
                                                 {(0, 2): 1, (2, 0): -1}, {(1, 2): 1, (2, 1): -1}]))
        self.assertEqual(raised(unlowered(free_book(7, 1))), exchange_book(7, 2))
        self.assertEqual(raised(unlowered(exchange_book(3, 8))), exchange_book(3, 9))
        self.assertEqual(raised(twist_lowered(5, [[0, 0], [0, 0]])), exchange_book(5, 3))
        self.assertEqual(count(raised(unlowered(shut_book(2, 4))), 3), 5)

    def test_wrong_inputs(self):
        for wrong in NO_LOWER:
            self.refuses("BadLower", raised, wrong)
        for book in (free_book(2, 9), shut_book(3, 9), chance_book(97, 9, 3, 1)):
            self.refuses(number("letters"), raised, unlowered(book))


if __name__ == "__main__":
    unittest.main()
