import unittest

import plain
from asking import MANY, NUMBERS_NOT, Asks, number
from ruleshadows.books import Rules, exchange_book, free_book, minus_book, shut_book
from ruleshadows.orders import head_rules, head_words, heads, plain_words, word_book
from ruleshadows.rests import count
from ruleshadows.settled import is_settled, is_tidy, overlap_row, overlaps, unsettled
from samples import bent_book, few_books, heart_book, longest, small_books, told, told_book
from test_orders import by, orders, wrong_orders


def plain_settled(book, order, word):
    """Whether the overlap is settled, with all words and rows written out."""
    prime, letters = book.prime, book.letters
    rules = dict(head_rules(book, order))
    key = by(list(order))
    rows = []
    for head, rule in rules.items():
        for letter in range(letters):
            one = plain.unit(letters, letter)
            if key(word) < key(head + (letter,)):
                rows.append(plain.beside(prime, rule, one))
            if key(word) < key((letter,) + head):
                rows.append(plain.beside(prime, one, rule))
    return plain.within(prime, plain.gauss(prime, rows), plain_overlap(book, order, word))


def plain_overlap(book, order, word):
    rules = dict(head_rules(book, order))
    one = plain.beside(book.prime, rules[word[:2]], plain.unit(book.letters, word[2]))
    other = plain.beside(book.prime, plain.unit(book.letters, word[0]), rules[word[1:]])
    return tuple((x - y) % book.prime for x, y in zip(one, other))


class Settled(Asks, unittest.TestCase):
    def test_overlaps_and_their_rows(self):
        for book in small_books():
            for order in orders(book.letters)[:3]:
                some = heads(book, order)
                wanted = [word for word in plain.words(book.letters, 3) if word[:2] in some and word[1:] in some]
                self.assertEqual(overlaps(book, order), wanted)
                for word in wanted[:6]:
                    row = overlap_row(book, order, word)
                    self.assertIsInstance(row, tuple)
                    self.assertEqual(row, plain_overlap(book, order, word), told(book))
                    self.assertIs(is_settled(book, order, word), plain_settled(book, order, word), (told(book), order))

    def test_examples(self):
        self.assertEqual(overlaps(exchange_book(3, 3), [0, 1, 2]), [(0, 1, 2)])
        self.assertEqual(overlaps(exchange_book(3, 3), [2, 1, 0]), [(2, 1, 0)])
        self.assertIs(is_settled(exchange_book(3, 3), [0, 1, 2], (0, 1, 2)), True)
        self.assertEqual(overlaps(free_book(3, 3), [0, 1, 2]), [])
        self.assertEqual(overlap_row(shut_book(3, 1), [0], (0, 0, 0)), (0,))
        book = told_book(3, 2, [{(0, 0): 1, (1, 1): 1}])
        self.assertEqual(overlaps(book, [0, 1]), [(0, 0, 0)])
        self.assertEqual(overlap_row(book, [0, 1], (0, 0, 0)), (0, 0, 0, 2, 0, 0, 1, 0))
        self.assertIs(is_settled(book, [0, 1], (0, 0, 0)), False)
        self.assertIs(is_tidy(book, [0, 1]), False)
        self.assertEqual(unsettled(book, [0, 1], 3), [(0, 0, 0, 1, 0, 0, 2, 0)])

    def test_only_what_the_word_is_ahead_of_settles(self):
        # All rows of head rules with a letter, but those whose head is the word itself, would make up for these.
        for prime, rules, order, word in (
                (3, ((1, 0, 0, 0, 0, 2, 1, 0, 1), (0, 1, 0, 0, 0, 0, 0, 0, 0), (0, 0, 1, 0, 1, 0, 0, 0, 0),
                     (0, 0, 0, 1, 0, 0, 0, 0, 0), (0, 0, 0, 0, 0, 0, 0, 1, 2)), [0, 2, 1], (0, 0, 2)),
                (2, ((1, 0, 0, 1, 0, 0, 0, 0, 0), (0, 1, 0, 0, 0, 1, 0, 0, 0), (0, 0, 1, 0, 0, 0, 0, 0, 0),
                     (0, 0, 0, 0, 1, 0, 0, 0, 0), (0, 0, 0, 0, 0, 0, 1, 1, 0)), [0, 2, 1], (0, 1, 1)),
                (3, ((1, 0, 0, 0, 0, 0, 0, 0, 0), (0, 1, 0, 0, 0, 0, 0, 0, 0), (0, 0, 1, 0, 0, 0, 0, 0, 2),
                     (0, 0, 0, 1, 0, 0, 0, 0, 0), (0, 0, 0, 0, 1, 0, 0, 0, 0), (0, 0, 0, 0, 0, 1, 0, 0, 0),
                     (0, 0, 0, 0, 0, 0, 1, 0, 0), (0, 0, 0, 0, 0, 0, 0, 1, 1)), [0, 1, 2], (2, 1, 2))):
            book = Rules(prime, 3, rules)
            self.assertIs(is_settled(book, order, word), False)
            for word in overlaps(book, order):
                self.assertIs(is_settled(book, order, word), plain_settled(book, order, word))

    def test_known_tidy_books(self):
        for prime in (2, 3, 97):
            for letters in (1, 2, 3, 4):
                for book in (free_book(prime, letters), shut_book(prime, letters), exchange_book(prime, letters),
                             minus_book(prime, letters)):
                    self.assertIs(is_tidy(book, list(range(letters))), True)
                    self.assertIs(is_tidy(book, tuple(range(letters))[::-1]), True)
        self.assertIs(is_tidy(exchange_book(5, 9), [3, 1, 2, 0, 4, 5, 6, 7, 8]), True)
        for order in ([0, 1], [1, 0]):
            self.assertIs(is_tidy(bent_book(5), order), False)
        self.assertFalse(any(is_tidy(heart_book(2, 1, 1), order) for order in orders(3)))

    def test_unsettled_by_the_plain_way(self):
        for book in few_books():
            for order in orders(book.letters)[:3]:
                for length in range(min(longest(book), 4) + 1):
                    every = plain.words(book.letters, length)
                    some = plain_words(book, order, length)
                    flat = [plain.unit(len(every), every.index(word)) for word in some]
                    room = plain.nothing(book.prime, book.letters, book.rules, length)
                    wanted = plain.common(book.prime, room, flat, len(every))
                    self.assertEqual(unsettled(book, order, length), wanted, (told(book), order))

    def test_heart_tidy(self):
        some = {True: 0, False: 0}
        for book in small_books():
            for order in orders(book.letters)[-3:]:
                tidy = is_tidy(book, order)
                some[tidy] += 1
                where = (told(book), order)
                self.assertIs(tidy, len(plain_words(book, order, 3)) == count(book, 3), where)
                self.assertIs(all(is_settled(book, order, word) for word in overlaps(book, order)), tidy, where)
                words = word_book(book.prime, book.letters, heads(book, order))
                for length in range(longest(book) + 1):
                    nothing = unsettled(book, order, length) == []
                    every = sorted(head_words(book, order, length) + plain_words(book, order, length))
                    apart = every == plain.words(book.letters, length)
                    alike = count(words, length) == count(book, length)
                    self.assertGreaterEqual(count(words, length), count(book, length), where)
                    if tidy or length == 3:
                        self.assertEqual((nothing, apart, alike), (tidy, tidy, tidy), where)
        self.assertTrue(some[True] > 20 and some[False] > 20)

    def test_wrong_inputs_in_sequence(self):
        book = minus_book(3, 2)
        wrong_orders(self, is_tidy, book)
        wrong_orders(self, overlaps, book)
        wrong_orders(self, overlap_row, book, None)
        wrong_orders(self, is_settled, book, None)
        wrong_orders(self, unsettled, book, -1)
        self.assertEqual(overlaps(book, [0, 1]), [(0, 0, 0), (0, 0, 1), (0, 1, 1), (1, 1, 1)])
        for function in (overlap_row, is_settled):
            for wrong in (None, 0, "001", (), (0, 0), [0, 0, 1], (1, 0, 0), (0, 1, 0), (0, 0, True), (False, 0, 1),
                          (0, 0, 2), (0, 0, 1, 1), (0.0, 0, 1), ((0,), 0, 1), {(0, 0, 1)}):
                self.refuses("BadWord", function, book, [0, 1], wrong)
        for wrong in NUMBERS_NOT + (-1,):
            self.refuses(number("length"), unsettled, book, [0, 1], wrong)
        self.refuses(MANY, unsettled, book, [0, 1], 10)
        self.assertEqual(unsettled(book, [0, 1], 9), [])


if __name__ == "__main__":
    unittest.main()
