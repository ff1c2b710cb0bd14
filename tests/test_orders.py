import itertools
import unittest

import plain
from asking import MANY, NO_BOOK, NUMBERS_NOT, Asks, number
from ruleshadows.books import Rules, exchange_book, free_book, minus_book, shut_book
from ruleshadows.orders import head_of, head_rules, head_words, heads, is_order, plain_words, word_book
from ruleshadows.rests import count, rest_words
from samples import bent_book, chance_row, few_books, longest, small_books, told, told_book


def orders(letters):
    return [list(order) for order in itertools.permutations(range(letters))]


def by(order):
    """The key of a word that makes the order of its letters the one of words."""
    return lambda word: [order.index(letter) for letter in word]


def ranked(order, length):
    return sorted(plain.words(len(order), length), key=by(list(order)))


def plain_heads(prime, order, length, rows):
    """The heads of all sums of multiples of rows, with the row of each, by elimination in the sequence of the order."""
    if not rows:
        return []
    every, seen = plain.words(len(order), length), ranked(order, length)
    tidy = plain.gauss(prime, [[row[every.index(word)] for word in seen] for row in rows])
    return sorted((seen[plain.first(row)], tuple(row[seen.index(word)] for word in every)) for row in tidy)


WRONG_ORDERS = (None, 0, "01", [], [0], [0, 0], [1, 2], [0, 1, 2], [0, True], [False, 1], [0, None], {0: 1, 1: 0},
                [0.0, 1], [[0], [1]], {0, 1})


def wrong_orders(test, function, book, *others):
    """A wrong book, then a wrong order, ahead of all else."""
    for wrong in (None, 0, "x", [book], book.rules):
        test.refuses(NO_BOOK, function, wrong, None, *others)
    for wrong in WRONG_ORDERS:
        test.refuses("BadOrder", function, book, wrong, *others)


class Orders(Asks, unittest.TestCase):
    def test_is_order(self):
        for letters in range(1, 5):
            for order in orders(letters):
                self.assertIs(is_order(letters, order), True)
                self.assertIs(is_order(letters, tuple(order)), True)
                self.assertIs(is_order(letters, order + [letters]), False)
        self.assertIs(is_order(9, (8, 0, 7, 1, 6, 2, 5, 3, 4)), True)
        for wrong in WRONG_ORDERS:
            self.assertIs(is_order(2, wrong), False, wrong)
        for wrong in NUMBERS_NOT + (0, 10):
            self.refuses(number("letters"), is_order, wrong, None)

    def test_head_of(self):
        book = free_book(3, 2)
        self.assertEqual(head_of(book, [0, 1], 2, [0, 3, 1, 1]), (1, 0))
        self.assertEqual(head_of(book, [1, 0], 2, [0, 3, 1, 1]), (1, 1))
        self.assertEqual(head_of(book, [1, 0], 2, (5, 1, 1, 6)), (1, 0))
        self.assertIsNone(head_of(book, [1, 0], 2, [0, 3, -3, 6]))
        self.assertEqual(head_of(book, [1, 0], 0, [1]), ())
        self.assertIsNone(head_of(book, [1, 0], 0, [3]))
        self.assertEqual(head_of(free_book(2, 1), [0], 50, [1]), (0,) * 50)
        for letters, length in ((2, 4), (3, 3), (4, 2)):
            book = free_book(5, letters)
            for order in orders(letters):
                for seed in range(3):
                    row = chance_row(letters ** length, 2, seed)
                    there = [word for word, x in zip(plain.words(letters, length), row) if x % 5]
                    wanted = min(there, key=by(order)) if there else None
                    self.assertEqual(head_of(book, order, length, row), wanted)

    def test_heads_by_the_plain_way(self):
        for book in small_books():
            for order in orders(book.letters):
                wanted = plain_heads(book.prime, order, 2, book.rules)
                self.assertEqual(head_rules(book, order), wanted, (told(book), order))
                self.assertEqual(heads(book, order), [head for head, _ in wanted])
                self.assertEqual(len(heads(book, order)), len(book.rules))

    def test_heads_are_those_of_all_rules_one_by_one(self):
        for book in few_books():
            if book.prime ** len(book.rules) > 300:
                continue
            for order in orders(book.letters):
                found = set()
                for numbers in itertools.product(range(book.prime), repeat=len(book.rules)):
                    row = plain.summed(book.prime, book.rules, numbers, book.letters ** 2)
                    found.add(head_of(book, order, 2, row))
                self.assertEqual(heads(book, order), sorted(found - {None}))

    def test_examples(self):
        self.assertEqual(heads(exchange_book(3, 2), [0, 1]), [(0, 1)])
        self.assertEqual(heads(exchange_book(3, 2), [1, 0]), [(1, 0)])
        self.assertEqual(head_rules(exchange_book(3, 2), (1, 0)), [((1, 0), (0, 2, 1, 0))])
        self.assertEqual(head_rules(free_book(3, 2), (1, 0)), [])
        self.assertEqual(plain_words(exchange_book(3, 2), [0, 1], 3), [(0, 0, 0), (1, 0, 0), (1, 1, 0), (1, 1, 1)])
        self.assertEqual(plain_words(exchange_book(3, 2), [1, 0], 3), [(0, 0, 0), (0, 0, 1), (0, 1, 1), (1, 1, 1)])
        self.assertEqual(plain_words(shut_book(3, 3), [0, 2, 1], 1), [(0,), (1,), (2,)])
        self.assertEqual(plain_words(shut_book(3, 3), [0, 2, 1], 2), [])
        self.assertEqual(plain_words(shut_book(3, 3), [0, 2, 1], 0), [()])
        self.assertEqual(plain_words(free_book(3, 1), [0], 300), [(0,) * 300])
        self.assertEqual(head_words(shut_book(3, 2), [1, 0], 1), [])
        self.assertEqual(head_words(shut_book(3, 1), [0], 300), [(0,) * 300])

    def test_plain_words_have_a_head_at_no_place(self):
        for book in small_books():
            for order in orders(book.letters)[-2:]:
                some = heads(book, order)
                for length in range(longest(book) + 1):
                    wanted = [word for word in plain.words(book.letters, length)
                              if not any(word[k:k + 2] in some for k in range(length - 1))]
                    self.assertEqual(plain_words(book, order, length), wanted, told(book))

    def test_head_words_by_the_plain_way(self):
        for book in few_books():
            for order in orders(book.letters):
                for length in range(min(longest(book), 4) + 1):
                    room = plain.nothing(book.prime, book.letters, book.rules, length)
                    wanted = [head for head, _ in plain_heads(book.prime, order, length, room)]
                    found = head_words(book, order, length)
                    self.assertEqual(found, wanted, (told(book), order))
                    self.assertEqual(book.letters ** length - len(found), count(book, length))
                    self.assertFalse(set(found) & set(rest_words(book, length)) and order == sorted(order))
                    some = plain_words(book, order, length)
                    self.assertTrue(all(word in found or word in some for word in plain.words(book.letters, length)))
                    if order == sorted(order):
                        left = [word for word in plain.words(book.letters, length) if word not in found]
                        self.assertEqual(left, rest_words(book, length))

    def test_word_book(self):
        self.assertEqual(word_book(3, 2, [(0, 1), (1, 1), (0, 1)]), told_book(3, 2, [{(0, 1): 1}, {(1, 1): 1}]))
        self.assertEqual(word_book(3, 2, ()), free_book(3, 2))
        self.assertEqual(word_book(97, 9, plain.words(9, 2)), shut_book(97, 9))
        book = minus_book(5, 3)
        self.assertEqual(heads(word_book(5, 3, heads(book, [2, 0, 1])), [0, 1, 2]), heads(book, [2, 0, 1]))
        for wrong in NUMBERS_NOT + (0, 4):
            self.refuses("BadPrime", word_book, wrong, 0, None)
        for wrong in NUMBERS_NOT + (0, 10):
            self.refuses(number("letters"), word_book, 3, wrong, None)
        for wrong in (None, 0, "01", [0, 1], (0, 1), [[0, 1]], [(0, 2)], [(0,)], [(0, 1, 1)], [(0, True)],
                      [(0, 1), None], [()], [(0, -1)], {(0, 1): 1}):
            self.refuses("BadWord", word_book, 3, 2, wrong)

    def test_wrong_inputs_in_sequence(self):
        book = exchange_book(3, 2)
        wrong_orders(self, head_of, book, -1, None)
        wrong_orders(self, heads, book)
        wrong_orders(self, head_rules, book)
        wrong_orders(self, plain_words, book, -1)
        wrong_orders(self, head_words, book, -1)
        for wrong in NUMBERS_NOT + (-1,):
            self.refuses(number("length"), head_of, book, [0, 1], wrong, None)
            self.refuses(number("length"), plain_words, book, [0, 1], wrong)
            self.refuses(number("length"), head_words, book, [0, 1], wrong)
        self.refuses(MANY, head_of, book, [0, 1], 10, None)
        self.refuses(MANY, plain_words, shut_book(3, 2), [0, 1], 10)
        self.refuses(MANY, head_words, shut_book(3, 2), [0, 1], 10 ** 9)
        for wrong in (None, [1, 2, 3], [1, 2, 3, True], "abcd", [[1, 2], [3, 4]]):
            self.refuses("BadRow", head_of, book, [0, 1], 2, wrong)

    def test_equal_books_have_equal_heads(self):
        book = bent_book(7)
        again = Rules(7, 2, [[3 * x + y for x, y in zip(*book.rules)], list(book.rules[1])])
        self.assertEqual(head_rules(book, [1, 0]), head_rules(again, (1, 0)))


if __name__ == "__main__":
    unittest.main()
