import unittest

import plain
from asking import MANY, NUMBERS_NOT, Asks, number
from ruleshadows.books import exchange_book, free_book, minus_book, weighed_book
from ruleshadows.orders import head_rules, heads, plain_words
from ruleshadows.rests import rest
from ruleshadows.settled import is_tidy
from ruleshadows.sweeps import replaced, swept
from samples import Numbers, bent_book, chance_row, few_books, longest, small_books, told
from test_orders import orders, wrong_orders


def plain_replaced(book, order, word, place, row):
    every = plain.words(book.letters, len(word))
    rule = dict(head_rules(book, order))[word[place:place + 2]]
    ahead = plain.unit(book.letters ** place, plain.spot(book.letters, word[:place]))
    behind = plain.unit(book.letters ** (len(word) - 2 - place), plain.spot(book.letters, word[place + 2:]))
    full = plain.beside(book.prime, plain.beside(book.prime, ahead, rule), behind)
    times = row[every.index(word)]
    return tuple((x - times * y) % book.prime for x, y in zip(row, full))


class Sweeps(Asks, unittest.TestCase):
    def ways(self, book, order, length, row):
        """All words of the row that have a head, with the places."""
        some = heads(book, order)
        return [(word, place) for word, x in zip(plain.words(book.letters, length), row) if x % book.prime
                for place in range(length - 1) if word[place:place + 2] in some]

    def test_replaced_by_the_plain_way(self):
        for book in few_books():
            for order in orders(book.letters)[:3]:
                for length in range(2, longest(book) + 1):
                    row = chance_row(book.letters ** length, 2 * book.prime, length)
                    for word, place in self.ways(book, order, length, row)[:20]:
                        found = replaced(book, order, word, place, row)
                        self.assertEqual(found, plain_replaced(book, order, word, place, row), told(book))
                        self.assertEqual(found[plain.spot(book.letters, word)], 0)

    def test_replaced_where_the_number_is_0(self):
        book = exchange_book(3, 2)
        self.assertEqual(replaced(book, [0, 1], (0, 1), 0, [1, 3, 5, 0]), (1, 0, 2, 0))
        self.assertEqual(replaced(book, [0, 1], (0, 1), 0, [1, 4, 5, 0]), (1, 0, 0, 0))
        self.assertEqual(replaced(book, [1, 0], (1, 0), 0, [1, 4, 5, 0]), (1, 0, 0, 0))
        self.assertEqual(replaced(bent_book(3), [0, 1], (0, 0), 0, [2, 0, 0, 1]), (0, 0, 0, 1))

    def test_swept_by_its_own_words(self):
        some = 0
        for book in small_books():
            for order in orders(book.letters)[-3:]:
                if not is_tidy(book, order):
                    continue
                some += 1
                for length in range(longest(book) + 1):
                    size = book.letters ** length
                    row = chance_row(size, 3 * book.prime, length)
                    found = swept(book, order, length, row)
                    self.assertIsInstance(found, tuple)
                    words = plain_words(book, order, length)
                    self.assertTrue(all(word in words or not x for word, x in zip(
                        plain.words(book.letters, length), found)))
                    room = plain.nothing(book.prime, book.letters, book.rules, length)
                    self.assertTrue(plain.within(book.prime, room, [x - y for x, y in zip(row, found)]), told(book))
                    self.assertTrue(all(0 <= x < book.prime for x in found))
                    if order == sorted(order):
                        self.assertEqual(found, rest(book, length, row))
        self.assertGreater(some, 20)

    def test_heart_no_difference_which_words_are_replaced_first(self):
        for book in [exchange_book(3, 3), minus_book(5, 3), weighed_book(5, [[0, 0], [2, 0]]), minus_book(2, 2),
                     weighed_book(7, [[1, 0, 0], [3, 0, 0], [2, 5, 1]]), free_book(3, 2)] + few_books():
            for order in orders(book.letters)[:2] + orders(book.letters)[-1:]:
                if not is_tidy(book, order):
                    continue
                length = min(longest(book), 4)
                start = chance_row(book.letters ** length, book.prime, 3)
                wanted = swept(book, order, length, start)
                for seed in range(3):
                    numbers, row = Numbers(seed), start
                    ways = self.ways(book, order, length, row)
                    for _ in range(5000):
                        if not ways:
                            break
                        word, place = ways[numbers.below(len(ways))]
                        row = replaced(book, order, word, place, row)
                        ways = self.ways(book, order, length, row)
                    self.assertEqual(ways, [])
                    self.assertEqual(tuple(x % book.prime for x in row), wanted, told(book))

    def test_lengths_without_words_to_replace(self):
        self.assertEqual(swept(minus_book(3, 2), [1, 0], 0, [4]), (1,))
        self.assertEqual(swept(minus_book(3, 2), [1, 0], 1, [4, -1]), (1, 2))
        self.assertEqual(swept(minus_book(3, 1), [0], 200, [1]), (0,))
        self.assertEqual(swept(free_book(3, 1), [0], 200, [5]), (2,))

    def test_wrong_inputs_in_sequence(self):
        book = exchange_book(3, 2)
        wrong_orders(self, replaced, book, None, None, None)
        wrong_orders(self, swept, book, -1, None)
        for order in ([0, 1], [1, 0]):
            self.refuses("NotTidy", swept, bent_book(3), order, -1, None)
        for wrong in NUMBERS_NOT + (-1,):
            self.refuses(number("length"), swept, book, [0, 1], wrong, None)
        self.refuses(MANY, swept, book, [0, 1], 10, None)
        for wrong in (None, [1, 2, 3], [1, 2, 3, True], "abcd"):
            self.refuses("BadRow", swept, book, [0, 1], 2, wrong)
            self.refuses("BadRow", replaced, book, [0, 1], (0, 1), 0, wrong)
        for wrong in (None, 1, (), (0,), [0, 1], (0, 2), (0, True), "01", (0, -1), (0,) * 12 + (None,)):
            self.refuses("BadWord", replaced, book, [0, 1], wrong, None, None)
        self.refuses(MANY, replaced, book, [0, 1], (0, 1) * 5, None, None)
        for wrong in NUMBERS_NOT + (-1, 0, 2, 3, 4):
            self.refuses(number("place"), replaced, book, [0, 1], (1, 0, 1, 1), wrong, None)
        self.refuses(number("place"), replaced, book, [1, 0], (0, 1), 0, None)
        self.assertEqual(replaced(book, [0, 1], (1, 0, 1, 1), 1, [0] * 16), (0,) * 16)


if __name__ == "__main__":
    unittest.main()
