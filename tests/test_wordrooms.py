import unittest

import plain
from asking import MANY, NUMBERS_NOT, Asks, number
from ruleshadows.books import exchange_book, free_book, minus_book, shut_book
from ruleshadows.ladders import fits
from ruleshadows.orders import heads
from ruleshadows.places import at_places, common_at
from ruleshadows.settled import is_tidy
from ruleshadows.wordrooms import is_word_basis, word_basis
from samples import bent_book, few_books, longest, told, told_book
from test_orders import by, orders, plain_heads, wrong_orders
from tidysamples import lots_of, tidy_pairs, untidy_pairs


class Words:
    """All words of a length, the places at which they have heads, and the rooms of these places."""

    def __init__(self, book, order, length):
        self.book, self.order, self.length = book, order, length
        some = heads(book, order)
        self.words = plain.words(book.letters, length)
        self.places = {word: [k for k in range(length - 1) if word[k:k + 2] in some] for word in self.words}
        self.rooms = [plain.place(book.prime, book.letters, book.rules, length, at) for at in range(length - 1)]

    def is_basis(self, some):
        """is_word_basis for rows of the right form, by full rooms."""
        ranked = sorted(range(len(self.words)), key=lambda at: by(self.order)(self.words[at]))
        for at, row in enumerate(some):
            if [k for k in ranked if row[k] % self.book.prime][:1] != [at] or row[at] % self.book.prime != 1:
                return False
            if not all(plain.within(self.book.prime, self.rooms[k], row) for k in self.places[self.words[at]]):
                return False
        return True

    def there_is_one(self):
        """Whether for each word the common part of its places has a row with this head."""
        for word in self.words:
            room = plain.common_of(self.book.prime, [self.rooms[at] for at in self.places[word]], len(self.words))
            if word not in [head for head, _ in plain_heads(self.book.prime, self.order, self.length, room)]:
                return False
        return True


class WordRooms(Asks, unittest.TestCase):
    def test_word_bases_by_the_plain_way(self):
        for book, order in tidy_pairs():
            for length in range(longest(book) + 1):
                found = word_basis(book, order, length)
                self.assertIsInstance(found, list)
                self.assertEqual(len(found), book.letters ** length)
                for row in found:
                    self.assertIsInstance(row, tuple)
                    self.assertEqual(len(row), book.letters ** length)
                    self.assertTrue(all(0 <= x < book.prime for x in row))
                self.assertTrue(Words(book, order, length).is_basis(found), (told(book), order, length))
                self.assertIs(is_word_basis(book, order, length, found), True, (told(book), order, length))

    def test_is_word_basis_by_the_plain_way(self):
        some = {True: 0, False: 0}
        for book, order in tidy_pairs(2) + untidy_pairs():
            length = min(longest(book), 3)
            size = book.letters ** length
            words = Words(book, order, length)
            tries = [plain.identity(size)]
            if is_tidy(book, order):
                basis = word_basis(book, order, length)
                # One row ahead or behind, added to another one, may leave the rooms, or change the head.
                for at in range(0, size, 1 + size // 4):
                    for other in (0, size // 2, size - 1):
                        row = tuple(x + y for x, y in zip(basis[at], basis[other]))
                        tries.append(basis[:at] + [row] + basis[at + 1:])
            for tried in tries:
                wanted = words.is_basis(tried)
                some[wanted] += 1
                self.assertIs(is_word_basis(book, order, length, tried), wanted, (told(book), order))
                more = [[x + book.prime * (k % 3 - 1) for k, x in enumerate(row)] for row in tried]
                self.assertIs(is_word_basis(book, order, length, tuple(more)), wanted)
        self.assertTrue(some[True] > 20 and some[False] > 20)

    def test_examples(self):
        self.assertEqual(word_basis(exchange_book(3, 2), [0, 1], 2),
                         [(1, 0, 0, 0), (0, 1, 2, 0), (0, 0, 1, 0), (0, 0, 0, 1)])
        self.assertIs(is_word_basis(exchange_book(3, 2), [0, 1], 2, plain.identity(4)), False)
        # What a plain word's row has behind its head is free; a row of a head must be a rule.
        free = [(1, 1, 0, 2), (0, 1, 2, 0), (0, 0, 1, 5), (0, 0, 0, 4)]
        self.assertIs(is_word_basis(exchange_book(3, 2), [0, 1], 2, free), True)
        self.assertIs(is_word_basis(exchange_book(3, 2), [1, 0], 2, free), False)
        self.assertIs(is_word_basis(exchange_book(3, 2), [0, 1], 2, free[:1] + [(0, 1, 2, 1)] + free[2:]), False)
        self.assertIs(is_word_basis(exchange_book(3, 2), [0, 1], 2, [(2, 0, 0, 0)] + free[1:]), False)
        self.assertEqual(word_basis(exchange_book(3, 2), [1, 0], 2),
                         [(1, 0, 0, 0), (0, 1, 0, 0), (0, 2, 1, 0), (0, 0, 0, 1)])
        self.assertEqual(word_basis(free_book(3, 2), [1, 0], 0), [(1,)])
        self.assertEqual(word_basis(shut_book(3, 1), [0], 300), [(1,)])
        self.assertIs(is_word_basis(shut_book(3, 1), [0], 300, [[4]]), True)
        self.assertIs(is_word_basis(free_book(3, 1), [0], 300, [[2]]), False)
        self.assertIs(is_word_basis(bent_book(3), [0, 1], 1, [[1, 0], [0, 1]]), True)

    def test_heart_there_is_one_for_length_3_exactly_if_tidy(self):
        some = {True: 0, False: 0}
        for book in few_books():
            for order in orders(book.letters)[:3]:
                tidy = is_tidy(book, order)
                some[tidy] += 1
                self.assertIs(Words(book, order, 3).there_is_one(), tidy, (told(book), order))
        self.assertTrue(some[True] > 5 and some[False] > 5)

    def test_heart_rows_of_sets_of_places(self):
        for book, order in tidy_pairs(2):
            length = min(longest(book), 4)
            words = list(Words(book, order, length).places.values())
            for lot in lots_of(length - 1):
                one = len([found for found in words if set(found) & set(lot)])
                every = len([found for found in words if set(lot) <= set(found)])
                self.assertEqual(len(at_places(book, length, lot)), one, (told(book), order, lot))
                self.assertEqual(len(common_at(book, length, lot)), every, (told(book), order, lot))

    def test_heart_tidy_books_fit(self):
        for book, order in tidy_pairs(1):
            self.assertIs(fits(book, longest(book) + (book.letters < 4)), True, (told(book), order))

    def test_any_value_is_judged(self):
        book = minus_book(3, 2)
        right = word_basis(book, [0, 1], 2)
        self.assertIs(is_word_basis(book, [0, 1], 2, right), True)
        self.assertIs(is_word_basis(book, (0, 1), 2, tuple(list(row) for row in right)), True)
        for wrong in (None, 0, True, "abcd", {}, right[:3], right + right[:1], right[::-1], [None] * 4,
                      [list(row)[:3] for row in right], [[bool(x) for x in row] for row in right],
                      [[float(x) for x in row] for row in right], [set(row) for row in right], [[]] * 4,
                      right[:3] + [(0, 0, 0, True)], right[:3] + [(0, 0, 0, 0)], right[:3] + [(1, 0, 0, 1)]):
            self.assertIs(is_word_basis(book, [0, 1], 2, wrong), False, wrong)

    def test_greater_lengths(self):
        for book, order, length in ((minus_book(2, 2), [1, 0], 9), (exchange_book(97, 3), [1, 2, 0], 5),
                                    (exchange_book(5, 9), list(range(9))[::-1], 2), (shut_book(3, 9), range(9), 3),
                                    (told_book(5, 2, [{(0, 1): 1, (1, 0): 2}]), [0, 1], 7)):
            order = list(order)
            self.assertIs(is_word_basis(book, order, length, word_basis(book, order, length)), True)

    def test_wrong_inputs_in_sequence(self):
        book = exchange_book(3, 2)
        wrong_orders(self, is_word_basis, book, -1, None)
        wrong_orders(self, word_basis, book, -1)
        self.refuses("NotTidy", word_basis, bent_book(3), [0, 1], -1)
        self.refuses("NotTidy", word_basis, bent_book(3), [1, 0], 20)
        for wrong in NUMBERS_NOT + (-1,):
            self.refuses(number("length"), word_basis, book, [0, 1], wrong)
            self.refuses(number("length"), is_word_basis, book, [0, 1], wrong, None)
            self.refuses(number("length"), is_word_basis, bent_book(3), [0, 1], wrong, None)
        self.refuses(MANY, word_basis, book, [0, 1], 10)
        self.refuses(MANY, is_word_basis, book, [0, 1], 10 ** 9, None)


if __name__ == "__main__":
    unittest.main()
