import itertools
import unittest

import plain
from asking import MANY, NO_BOOK, NUMBERS_NOT, Asks, number
from ruleshadows.books import exchange_book, free_book, minus_book, shut_book
from ruleshadows.cuts import cut_numbers, cut_rows, cut_words
from ruleshadows.errors import TooMany
from ruleshadows.relations import relation_numbers
from samples import bent_book, few_books, heart_book, longest, small_books, told


def sizes_of(length, parts):
    """All ways to make the length of so many numbers from 1 on."""
    if parts == 0:
        return [()] if length == 0 else []
    return [(k,) + more for k in range(1, length + 1) for more in sizes_of(length - k, parts - 1)]


def plain_cuts(book, length, parts):
    kept = [plain.rest_words(book.prime, book.letters, book.rules, k) for k in range(length + 1)]
    return sorted(cut for sizes in sizes_of(length, parts) for cut in itertools.product(*(kept[k] for k in sizes)))


def plain_rows(book, length, parts):
    """Each two parts beside one another made one, by the rest worked out the plain way."""
    ends = plain_cuts(book, length, parts - 1)
    rows = []
    for cut in plain_cuts(book, length, parts):
        row = [0] * len(ends)
        for k in range(parts - 1):
            word = cut[k] + cut[k + 1]
            every = plain.words(book.letters, len(word))
            room = plain.nothing(book.prime, book.letters, book.rules, len(word))
            left = plain.left(book.prime, room, plain.unit(len(every), every.index(word)))
            for at, times in enumerate(left):
                if times:
                    place = ends.index(cut[:k] + (every[at],) + cut[k + 2:])
                    row[place] = (row[place] + (-1) ** k * times) % book.prime
        rows.append(tuple(row))
    return tuple(rows)


class Cuts(Asks, unittest.TestCase):
    def test_words_by_the_plain_way(self):
        for book in few_books():
            for length in range(min(longest(book), 4) + 1):
                for parts in range(length + 3):
                    self.assertEqual(cut_words(book, length, parts), plain_cuts(book, length, parts), told(book))

    def test_rows_by_the_plain_way(self):
        for book in few_books():
            for length in range(4):
                for parts in range(1, length + 3):
                    self.assertEqual(cut_rows(book, length, parts), plain_rows(book, length, parts), told(book))

    def test_small_examples(self):
        book = exchange_book(3, 2)
        self.assertEqual(cut_words(book, 0, 0), [()])
        self.assertEqual(cut_words(book, 0, 1), [])
        self.assertEqual(cut_words(book, 1, 0), [])
        self.assertEqual(cut_words(book, 2, 1), [((0, 0),), ((1, 0),), ((1, 1),)])
        self.assertEqual(cut_words(minus_book(3, 2), 3, 2), [
            ((0,), (1, 0)), ((1,), (1, 0)), ((1, 0), (0,)), ((1, 0), (1,))])
        self.assertEqual(cut_rows(book, 2, 2), ((1, 0, 0), (0, 1, 0), (0, 1, 0), (0, 0, 1)))
        self.assertEqual(cut_rows(book, 1, 1), ((), ()))
        self.assertEqual(cut_rows(book, 0, 1), ())
        self.assertEqual(cut_words(book, 3, 10 ** 9), [])
        self.assertEqual(cut_words(shut_book(2, 1), 60, 60), [((0,),) * 60])
        self.assertEqual(len(cut_words(free_book(2, 1), 12, 6)), 462)

    def test_two_steps_lead_to_0(self):
        for book in few_books():
            for length in range(min(longest(book), 4) + 1):
                for parts in range(2, length + 1):
                    first, second = cut_rows(book, length, parts), cut_rows(book, length, parts - 1)
                    size = len(cut_words(book, length, parts - 2))
                    for row in first:
                        self.assertFalse(any(plain.summed(book.prime, second, row, size)), told(book))

    def test_numbers_by_the_ranks_of_the_rows(self):
        for book in few_books():
            for length in range(min(longest(book), 4) + 1):
                sizes = [len(cut_words(book, length, parts)) for parts in range(length + 1)]
                ranks = [0] + [plain.rank(book.prime, cut_rows(book, length, parts)) if sizes[parts - 1] else 0
                               for parts in range(1, length + 1)] + [0]
                found = tuple(sizes[k] - ranks[k] - ranks[k + 1] for k in range(length + 1))
                self.assertEqual(cut_numbers(book, length), found, told(book))

    def test_heart_cuts_tell_the_relations(self):
        for book in small_books():
            most = min(longest(book), 4)
            for side in (0, 1):
                numbers = relation_numbers(book, most, side)
                for length in range(most + 1):
                    told_numbers = tuple(numbers[step][length] for step in range(length + 1))
                    self.assertEqual(cut_numbers(book, length), told_numbers, (told(book), length))
        self.assertEqual(cut_numbers(bent_book(7), 4), (0, 0, 0, 1, 1))
        self.assertEqual(cut_numbers(heart_book(2, 1, 1), 5), (0, 0, 0, 1, 1, 14))
        self.assertEqual(cut_numbers(exchange_book(3, 2), 0), (1,))
        self.assertEqual(cut_numbers(shut_book(3, 1), 50), (0,) * 50 + (1,))

    def test_too_many(self):
        self.refuses(MANY, cut_words, exchange_book(3, 2), 10, 3)
        self.refuses(MANY, cut_rows, exchange_book(3, 2), 10, 3)
        self.refuses(MANY, cut_numbers, exchange_book(3, 2), 10)
        book = free_book(3, 2)
        for length in range(10):
            for parts in range(length + 1):
                many = len(sizes_of(length, parts)) * 2 ** length
                fewer = len(sizes_of(length, parts - 1)) * 2 ** length if parts else 0
                if many > 1000:
                    self.refuses(MANY, cut_words, book, length, parts)
                else:
                    self.assertEqual(len(cut_words(book, length, parts)), many)
                if parts and max(many, fewer) > 1000:
                    self.refuses(MANY, cut_rows, book, length, parts)
        self.refuses(MANY, cut_words, exchange_book(3, 2), 10, 1)
        self.refuses(MANY, cut_rows, exchange_book(3, 2), 10, 1)
        self.refuses(MANY, cut_words, exchange_book(3, 2), 10, 100)
        self.refuses(MANY, cut_numbers, book, 7)
        self.refuses(MANY, cut_numbers, free_book(3, 9), 3)
        self.assertEqual(cut_numbers(exchange_book(3, 9), 3), (0, 0, 0, 84))
        # Just 1000 are not too many.
        self.assertEqual(len(cut_words(free_book(3, 1), 1001, 2)), 1000)
        self.refuses(MANY, cut_words, free_book(3, 1), 1002, 2)
        self.assertEqual(cut_numbers(book, 5), (0,) * 6)
        self.refuses(MANY, cut_words, free_book(3, 1), 14, 7)
        with self.assertRaises(TooMany):
            cut_rows(book, 8, 3)

    def test_wrong_inputs_in_sequence(self):
        book = exchange_book(3, 2)
        for wrong in (None, 0, "x", [book]):
            self.refuses(NO_BOOK, cut_words, wrong, -1, -1)
            self.refuses(NO_BOOK, cut_rows, wrong, -1, -1)
            self.refuses(NO_BOOK, cut_numbers, wrong, -1)
        for wrong in NUMBERS_NOT + (-1,):
            self.refuses(number("length"), cut_words, book, wrong, -1)
            self.refuses(number("length"), cut_rows, book, wrong, 0)
            self.refuses(number("length"), cut_numbers, book, wrong)
            self.refuses(number("parts"), cut_words, book, 12, wrong)
            self.refuses(number("parts"), cut_rows, book, 12, wrong)
        self.refuses(number("parts"), cut_rows, book, 3, 0)
        self.assertEqual(cut_words(book, 3, 0), [])


if __name__ == "__main__":
    unittest.main()
