import unittest

import plain
from asking import MANY, NUMBERS_NOT, Asks, number
from lowersamples import (
    chance_lowered, formed, long_words, longest_up_to, losing_example, plain_beside, plain_nothing, some_lowered,
    told_lowered)
from ruleshadows.books import exchange_book, free_book, minus_book, shut_book
from ruleshadows.longs import long_size
from ruleshadows.lowered import Lowered, unlowered
from ruleshadows.rests import nothing_room, rest_words
from ruleshadows.upto import count_up_to, kept_words, long_nothing, long_product, long_rest, tops
from samples import chance_book, chance_row, told_book
from test_longs import NO_LOWER


class UpTo(Asks, unittest.TestCase):
    def test_by_the_plain_way(self):
        for lowered in some_lowered():
            letters, prime = lowered.book.letters, lowered.book.prime
            for length in range(longest_up_to(lowered) + 1):
                where = (told_lowered(lowered), length)
                room = plain_nothing(lowered, length)
                self.assertEqual(long_nothing(lowered, length), room, where)
                firsts = [plain.first(row) for row in room]
                kept = [word for at, word in enumerate(long_words(letters, length)) if at not in firsts]
                self.assertEqual(kept_words(lowered, length), kept, where)
                self.assertEqual(count_up_to(lowered, length), len(kept), where)
                for seed in (1, 2):
                    long = chance_row(long_size(letters, length), 2 * prime, seed)
                    found = long_rest(lowered, length, long)
                    self.assertIsInstance(found, tuple)
                    self.assertEqual(found, plain.left(prime, room, long), where)

    def test_tops_by_the_plain_way(self):
        for lowered in some_lowered():
            for length in (2, longest_up_to(lowered)):
                self.check_tops(lowered, length)

    def check_tops(self, lowered, length):
        letters, prime = lowered.book.letters, lowered.book.prime
        room = plain_nothing(lowered, length)
        total = 0
        for top in range(length + 1):
            starts = [at for at, word in enumerate(long_words(letters, length)) if len(word) == top]
            rows = [row[starts[0]:starts[-1] + 1] for row in room if not any(row[:starts[0]])]
            found = tops(lowered, length, top)
            self.assertEqual(found, plain.gauss(prime, rows), (told_lowered(lowered), top))
            total += len(found)
            for row in nothing_room(lowered.book, top):
                self.assertTrue(plain.within(prime, found, row))
        self.assertEqual(tops(lowered, length, length), nothing_room(lowered.book, length))
        self.assertEqual(total, len(room))

    def test_products_by_the_plain_way(self):
        for lowered in some_lowered():
            letters, prime = lowered.book.letters, lowered.book.prime
            length = longest_up_to(lowered)
            room = plain_nothing(lowered, length)
            for first in range(length + 1):
                one = chance_row(long_size(letters, first), 2 * prime, first)
                other = chance_row(long_size(letters, length - first), prime, first + 3)
                found = long_product(lowered, first, one, length - first, other)
                self.assertIsInstance(found, tuple)
                wanted = plain.left(prime, room, plain_beside(letters, first, one, length - first, other))
                self.assertEqual(found, wanted, (told_lowered(lowered), first))

    def test_facts_of_products(self):
        for lowered in some_lowered():
            letters, prime = lowered.book.letters, lowered.book.prime
            length = longest_up_to(lowered) + 1
            first, second = length // 2, length - length // 2
            one = chance_row(long_size(letters, first), prime, 5)
            other = chance_row(long_size(letters, second), prime, 6)
            found = long_product(lowered, first, one, second, other)
            same, alike = long_rest(lowered, first, one), long_rest(lowered, second, other)
            self.assertEqual(long_product(lowered, first, same, second, alike), found, told_lowered(lowered))
            if length >= 3:
                third = chance_row(long_size(letters, 1), prime, 7)
                ahead = long_product(lowered, 1, third, first, one)
                behind = long_product(lowered, first, one, second - 1, other[-long_size(letters, second - 1):])
                self.assertEqual(
                    long_product(lowered, first + 1, ahead, second - 1, other[-long_size(letters, second - 1):]),
                    long_product(lowered, 1, third, first + second - 1, behind))

    def test_unlowered_books_keep_their_rest_words(self):
        for book in (exchange_book(5, 3), minus_book(2, 4), shut_book(3, 9), free_book(2, 9), chance_book(97, 3, 2, 3)):
            wanted = [word for length in range(3, -1, -1) for word in rest_words(book, length)]
            self.assertEqual(kept_words(unlowered(book), 3), wanted)
            self.assertEqual(count_up_to(unlowered(book), 3), len(wanted))

    def test_examples(self):
        # One letter with aa = a + 2: all words are sums of a and ().
        lowered = Lowered(shut_book(5, 1), [[1]], [2])
        self.assertEqual(kept_words(lowered, 4), [(0,), ()])
        self.assertEqual(long_nothing(lowered, 3), [(1, 0, 2, 3), (0, 1, 4, 3)])
        self.assertEqual(long_rest(lowered, 3, [1, 0, 0, 0]), (0, 0, 3, 2))
        self.assertEqual(tops(lowered, 3, 2), [(1,)])
        self.assertEqual(tops(lowered, 3, 1), [])
        self.assertEqual(long_product(lowered, 1, [1, 1], 1, [1, 6]), (0, 3, 3))
        self.assertEqual(count_up_to(lowered, 999), 2)
        self.assertEqual(count_up_to(unlowered(free_book(5, 1)), 999), 1000)
        for length in (0, 1):
            self.assertEqual(long_nothing(losing_example(3), length), [])
            self.assertEqual([tops(losing_example(3), length, top) for top in range(length + 1)], [[]] * (length + 1))
        # aa + ab = 1 and bb = 0: at four letters one row more is told that has two letters.
        losing = losing_example(3)
        self.assertEqual([len(tops(losing, 4, top)) for top in range(5)],
                         [len(nothing_room(losing.book, top)) + (top == 2) for top in range(5)])
        for letters in range(1, 5):
            form = [[(a + 2 * b) % 3 for b in range(letters)] for a in range(letters)]
            self.assertEqual(count_up_to(formed(3, form), letters), 2 ** letters)
        self.assertEqual(long_rest(formed(3, [[1, 2], [0, 1]]), 2, [0, 1, 0, 0, 0, 0, 0]), (0, 0, 2, 0, 0, 0, 2))

    def test_a_number_that_becomes_nothing(self):
        # ab = 1 and ba = 0: a = a ba = ab a, so that at three letters a is nothing, at four () is, too.
        book = told_book(5, 2, [{(0, 1): 1}, {(1, 0): 1}])
        lowered = Lowered(book, [[0, 0], [0, 0]], [1, 0])
        for length in range(6):
            room = plain_nothing(lowered, length)
            self.assertEqual(long_nothing(lowered, length), room)
        self.assertNotIn((), kept_words(lowered, 5))
        self.assertEqual(count_up_to(lowered, 6), count_up_to(lowered, 5))

    def test_greater_lengths(self):
        for book, length in ((exchange_book(97, 2), 8), (minus_book(3, 3), 5), (exchange_book(5, 9), 3),
                             (chance_book(2, 4, 3, 2), 4)):
            lowered = chance_lowered(book, 4, 2)
            kept = kept_words(lowered, length)
            self.assertEqual(len(kept) + len(long_nothing(lowered, length)), long_size(book.letters, length))
            long = [1] * long_size(book.letters, length)
            found = long_rest(lowered, length, long)
            self.assertEqual(long_rest(lowered, length, found), found)

    def test_wrong_inputs_in_sequence(self):
        calls = [(long_nothing, ()), (kept_words, ()), (count_up_to, ()), (long_rest, (None,)), (tops, (-1,))]
        lowered = unlowered(exchange_book(3, 2))
        for function, more in calls:
            for wrong in NO_LOWER:
                self.refuses("BadLower", function, wrong, -1, *more)
            for wrong in NUMBERS_NOT + (-1,):
                self.refuses(number("length"), function, lowered, wrong, *more)
            if function is not tops:
                self.refuses(MANY, function, lowered, 9, *more)
                self.refuses(MANY, function, unlowered(free_book(2, 9)), 10 ** 12, *more)
                self.refuses(MANY, function, unlowered(free_book(2, 1)), 1000, *more)
        for wrong in NUMBERS_NOT + (-1, 4):
            self.refuses(number("top"), tops, lowered, 3, wrong)
        self.refuses(number("top"), tops, lowered, 9, 10)
        self.refuses(MANY, tops, lowered, 9, 9)
        self.refuses(MANY, tops, lowered, 10 ** 12, 0)
        for wrong in (None, 0, [1] * 6, [1] * 8, [1] * 6 + [True], "abcdefg", [[1]] * 7):
            self.refuses("BadRow", long_rest, lowered, 2, wrong)

    def test_wrong_products_in_sequence(self):
        lowered = unlowered(exchange_book(3, 2))
        for wrong in NO_LOWER:
            self.refuses("BadLower", long_product, wrong, -1, None, -1, None)
        for wrong in NUMBERS_NOT + (-1,):
            self.refuses(number("first"), long_product, lowered, wrong, None, -1, None)
            self.refuses(number("second"), long_product, lowered, 1, None, wrong, None)
        self.refuses(MANY, long_product, lowered, 4, None, 5, None)
        self.refuses(MANY, long_product, lowered, 0, None, 9, None)
        for wrong in (None, 0, [1] * 6, [1] * 8, [1] * 6 + [True], "abcdefg"):
            self.refuses("BadRow", long_product, lowered, 2, wrong, 1, None)
            self.refuses("BadRow", long_product, lowered, 1, [1, 2, 3], 2, wrong)
        self.assertEqual(len(long_product(lowered, 8, [0] * 511, 0, [1])), 511)


if __name__ == "__main__":
    unittest.main()
