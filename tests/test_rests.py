import unittest

import plain
from asking import MANY, NO_BOOK, NUMBERS_NOT, Asks, number
from ruleshadows.books import book_led, exchange_book, free_book, minus_book, read_back, shut_book
from ruleshadows.rests import count, ending, idle, nothing_room, rest, rest_product, rest_words
from samples import chance_row, chance_table, few_books, longest, small_books, told, told_book


def words_beside(book, one, other):
    return plain.beside(book.prime, one, other)


class Rests(Asks, unittest.TestCase):
    def test_nothing_rooms_by_the_plain_way(self):
        for book in small_books():
            for length in range(longest(book) + 1):
                room = plain.nothing(book.prime, book.letters, book.rules, length)
                self.assertEqual(nothing_room(book, length), room, (told(book), length))
                kept = plain.rest_words(book.prime, book.letters, book.rules, length)
                self.assertEqual(rest_words(book, length), kept, told(book))
                self.assertEqual(count(book, length), book.letters ** length - len(room))

    def test_counts_that_are_known(self):
        self.assertEqual([count(exchange_book(2, 3), k) for k in range(7)], [1, 3, 6, 10, 15, 21, 28])
        self.assertEqual([count(minus_book(5, 4), k) for k in range(5)], [1, 4, 6, 4, 1])
        self.assertEqual([count(free_book(5, 9), k) for k in range(4)], [1, 9, 81, 729])
        self.assertEqual([count(shut_book(5, 9), k) for k in range(4)], [1, 9, 0, 0])
        self.assertEqual(count(exchange_book(3, 2), 9), 10)
        self.assertEqual([count(told_book(3, 2, [{(0, 0): 1}]), k) for k in range(8)], [1, 2, 3, 5, 8, 13, 21, 34])
        self.assertEqual(count(free_book(2, 1), 400), 1)
        self.assertEqual(count(shut_book(2, 1), 400), 0)
        self.assertEqual(rest_words(exchange_book(3, 2), 2), [(0, 0), (1, 0), (1, 1)])
        self.assertEqual(nothing_room(free_book(2, 2), 3), [])
        self.assertEqual((nothing_room(shut_book(2, 2), 0), nothing_room(shut_book(2, 2), 1)), ([], []))

    def test_a_rest_is_the_one_row_that_differs_by_nothing(self):
        for book in few_books():
            for length in range(longest(book) + 1):
                room = plain.nothing(book.prime, book.letters, book.rules, length)
                firsts = [plain.first(row) for row in room]
                for seed in range(2):
                    row = chance_row(book.letters ** length, 2 * book.prime, seed)
                    found = rest(book, length, row)
                    self.assertIsInstance(found, tuple)
                    self.assertEqual(found, plain.left(book.prime, room, row), told(book))
                    self.assertTrue(all(found[at] == 0 for at in firsts))
                    self.assertTrue(plain.within(book.prime, room, [x - y for x, y in zip(row, found)]))
                    self.assertEqual(rest(book, length, found), found)

    def test_products(self):
        for book in few_books():
            room = {k: plain.nothing(book.prime, book.letters, book.rules, k) for k in range(longest(book) + 1)}
            for first in range(longest(book) + 1):
                second = longest(book) - first
                one, other = chance_row(book.letters ** first, 9, 1), chance_row(book.letters ** second, 9, 2)
                both = words_beside(book, one, other)
                found = rest_product(book, first, one, second, other)
                self.assertEqual(found, plain.left(book.prime, room[first + second], both), told(book))
                same = [x + y for x, y in zip(one, room[first][0])] if room[first] else one
                self.assertEqual(rest_product(book, first, same, second, rest(book, second, other)), found)
        self.assertEqual(rest_product(exchange_book(5, 2), 1, [0, 1], 1, [1, 0]), (0, 0, 1, 0))
        self.assertEqual(rest_product(exchange_book(5, 2), 1, [1, 0], 1, [0, 1]), (0, 0, 1, 0))

    def test_ending(self):
        self.assertEqual(ending(minus_book(3, 3), 4), 4)
        self.assertEqual(ending(minus_book(3, 3), 5), 4)
        self.assertIsNone(ending(minus_book(3, 3), 3))
        self.assertEqual(ending(shut_book(3, 9), 2), 2)
        self.assertIsNone(ending(shut_book(3, 9), 1))
        self.assertIsNone(ending(free_book(3, 1), 700))
        self.assertIsNone(ending(shut_book(3, 2), 0))
        for book in small_books():
            counts = [count(book, k) for k in range(longest(book) + 1)]
            end = ending(book, longest(book))
            self.assertEqual(end, counts.index(0) if 0 in counts else None, told(book))
            self.assertTrue(end is None or not any(counts[end:]))

    def test_idle_by_its_own_words(self):
        for book in few_books():
            for length in range(longest(book)):
                size = book.letters ** length
                longer = plain.nothing(book.prime, book.letters, book.rules, length + 1)
                for side in (0, 1):
                    rows = []
                    for word in rest_words(book, length):
                        row = plain.unit(size, plain.spot(book.letters, word))
                        letters = plain.identity(book.letters)
                        ways = [(letter, row) if side == 0 else (row, letter) for letter in letters]
                        rows.append((row, [x for one, other in ways for x in plain.left(
                            book.prime, longer, words_beside(book, one, other))]))
                    told_zero = plain.dark(book.prime, plain.transposed([way for _, way in rows]), len(rows))
                    sums = [plain.summed(book.prime, [row for row, _ in rows], row, size) for row in told_zero]
                    found = idle(book, length, side)
                    self.assertEqual(found, plain.gauss(book.prime, sums), (told(book), length, side))

    def test_idle_examples(self):
        self.assertEqual(idle(minus_book(3, 2), 2, 0), [(0, 0, 1, 0)])
        self.assertEqual(idle(minus_book(3, 2), 1, 0), [])
        self.assertEqual(idle(shut_book(3, 2), 1, 1), [(1, 0), (0, 1)])
        self.assertEqual(idle(free_book(3, 2), 8, 1), [])
        self.assertEqual(idle(free_book(2, 1), 300, 0), [])
        book = told_book(5, 2, [{(0, 0): 1}, {(0, 1): 1}])
        self.assertEqual(idle(book, 1, 1), [(1, 0)])
        self.assertEqual(idle(book, 1, 0), [])

    def test_facts_of_tables_and_of_reading_back(self):
        for book in few_books():
            table = chance_table(book.prime, book.letters, 3)
            other, back = book_led(book, table), read_back(book)
            for length in range(longest(book) + 1):
                self.assertEqual(count(other, length), count(book, length))
                self.assertEqual(count(back, length), count(book, length))
            for length in range(longest(book)):
                for side in (0, 1):
                    self.assertEqual(len(idle(back, length, side)), len(idle(book, length, 1 - side)), told(book))
                    self.assertEqual(len(idle(other, length, side)), len(idle(book, length, side)), told(book))

    def test_wrong_books_and_lengths(self):
        calls = [(nothing_room, (-1,)), (rest_words, (-1,)), (count, (-1,)), (rest, (-1, None)), (ending, (-1,)),
                 (rest_product, (-1, None, -1, None)), (idle, (-1, 2))]
        for function, others in calls:
            for wrong in (None, 3, "x", (3, 2, ())):
                self.refuses(NO_BOOK, function, wrong, *others)
        book = exchange_book(3, 2)
        for wrong in NUMBERS_NOT + (-1,):
            for function in (nothing_room, rest_words, count):
                self.refuses(number("length"), function, book, wrong)
            self.refuses(number("length"), rest, book, wrong, None)
            self.refuses(number("length"), idle, book, wrong, 2)
            self.refuses(number("most"), ending, book, wrong)
            self.refuses(number("first"), rest_product, book, wrong, None, -1, None)
            self.refuses(number("second"), rest_product, book, 1, None, wrong, None)
        for wrong in NUMBERS_NOT + (-1, 2):
            self.refuses(number("side"), idle, book, 3, wrong)
            self.refuses(number("side"), idle, book, 9, wrong)

    def test_too_many_and_wrong_rows(self):
        book = exchange_book(3, 2)
        for function in (nothing_room, rest_words, count, ending):
            self.refuses(MANY, function, book, 10)
            self.refuses(MANY, function, free_book(5, 9), 10 ** 20)
        self.refuses(MANY, rest, book, 10, None)
        self.refuses(MANY, idle, book, 9, 0)
        self.refuses(MANY, rest_product, book, 5, None, 5, None)
        for wrong in (None, [1, 2, 3], [1, 2, 3, True], [1] * 5, "abcd"):
            self.refuses("BadRow", rest, book, 2, wrong)
            self.refuses("BadRow", rest_product, book, 2, wrong, 1, None)
            self.refuses("BadRow", rest_product, book, 2, wrong, 1, [1, 0])
            self.refuses("BadRow", rest_product, book, 1, [1, 0], 2, wrong)
        self.assertEqual(rest(book, 9, [0] * 512), (0,) * 512)


if __name__ == "__main__":
    unittest.main()
