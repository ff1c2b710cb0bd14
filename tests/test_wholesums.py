import itertools
import unittest

import plain
from asking import MANY, NO_BOOK, NUMBERS_NOT, Asks, number
from formsamples import bent_sum, many_books, most_of, other_shadows, paired_shadows
from ruleshadows.books import exchange_book, free_book, minus_book, shut_book
from ruleshadows.formfamilies import ring_sum, signed_sum, square_book
from ruleshadows.forms import is_paired, top_length, turner
from ruleshadows.places import common_room
from ruleshadows.rooms import is_within
from ruleshadows.shadows import shadow
from ruleshadows.sums import is_full, round_table, rules_of_sum
from ruleshadows.wholesums import sums_for, whole_sum
from samples import told

NOT_PAIRED = ("BadBook", "paired")


def plain_sums(book, length):
    """All sums of multiples of the common rows that begin with 1 and that the book comes out of."""
    size = book.letters ** length
    room = plain.commons(book.prime, book.letters, book.rules, length)
    found = []
    for numbers in itertools.product(range(book.prime), repeat=len(room)):
        row = plain.summed(book.prime, room, numbers, size)
        if any(row) and row[plain.first(row)] == 1 and rules_of_sum(book.prime, book.letters, length, row) == book:
            found.append(row)
    return sorted(found)


class WholeSums(Asks, unittest.TestCase):
    def test_whole_sums(self):
        for book, top in paired_shadows():
            if top < 2:
                self.refuses(NOT_PAIRED, whole_sum, book, 8)
                continue
            found = whole_sum(book, top + 1)
            self.assertTrue(isinstance(found, tuple) and len(found) == 2 and isinstance(found[1], tuple))
            rows = common_room(book, top)
            self.assertEqual(len(rows), 1)
            self.assertEqual(found, (top, rows[0]), told(book))
            self.assertEqual(whole_sum(book, most_of(book)), found)

    def test_heart_the_book_comes_out_of_its_sum(self):
        for book, top in paired_shadows():
            if top < 2:
                continue
            prime, letters = book.prime, book.letters
            _, row = whole_sum(book, top + 1)
            self.assertTrue(is_full(prime, letters, top, row))
            self.assertEqual(rules_of_sum(prime, letters, top, row), book, told(book))
            table = turner(shadow(book), top + 1)
            self.assertEqual(round_table(prime, letters, top, row), plain.transposed(plain.undone(prime, table)))

    def test_sums_by_trying_all(self):
        some = {0: 0, 1: 0, 2: 0}
        for book in many_books():
            for length in range(2, {1: 5, 2: 5, 3: 4, 4: 3}[book.letters]):
                if book.prime ** len(common_room(book, length)) > 1000:
                    self.refuses(MANY, sums_for, book, length)
                    continue
                found = sums_for(book, length)
                self.assertTrue(isinstance(found, list) and all(isinstance(row, tuple) for row in found))
                self.assertEqual(found, plain_sums(book, length), (told(book), length))
                some[min(2, len(found))] += 1
        self.assertTrue(some[0] > 30 and some[1] > 20 and some[2] > 2, some)

    def test_heart_with_a_paired_shadow_it_is_the_whole_sum_alone(self):
        for book, top in paired_shadows():
            if top > 1:
                self.assertEqual(sums_for(book, top), [whole_sum(book, top + 1)[1]])

    def test_heart_of_ring_sums(self):
        some = {True: 0, False: 0}
        for prime in (2, 3, 5, 7):
            tries = list(itertools.product(range(prime), repeat=3))
            for one, other, third in tries[::1 if prime < 7 else 5]:
                book = rules_of_sum(prime, 3, 3, ring_sum(prime, one, other, third))
                cubes = {number ** 3 % prime for number in (one, other, third)}
                wanted = len(cubes) > 1 and (one, other, third).count(0) < 2
                found = is_paired(shadow(book), 4) and top_length(shadow(book), 4) == 3
                some[wanted] += 1
                self.assertIs(found, wanted, (prime, one, other, third))
                if wanted:
                    row = whole_sum(book, 4)[1]
                    times = row[plain.first(row)]
                    self.assertEqual(times, 1)
                    self.assertTrue(is_within(prime, 27, [row], [ring_sum(prime, one, other, third)]))
        self.assertTrue(some[True] > 100 and some[False] > 40, some)

    def test_examples(self):
        self.assertEqual(whole_sum(exchange_book(5, 2), 3), (2, (0, 1, 4, 0)))
        self.assertEqual(whole_sum(exchange_book(7, 3), 4), (3, signed_sum(7, 3)))
        self.assertEqual(whole_sum(rules_of_sum(*bent_sum(3)), 4), (3, bent_sum(3)[3]))
        self.assertEqual(sums_for(square_book(5, [[2, 4], [0, 2]]), 2), [(1, 2, 0, 1)])
        # One letter whose square is nothing: a to any power comes out of itself.
        self.assertEqual(sums_for(shut_book(5, 1), 7), [(1,)])
        self.assertEqual(sums_for(free_book(5, 1), 7), [])
        self.assertEqual(sums_for(free_book(5, 3), 4), [])
        # Behind two letters a sum has two rows at the most: aa, ab + ba, bb do not come out of it.
        self.assertEqual(sums_for(minus_book(2, 2), 3), [])
        self.assertIn((0, 0, 0, 1, 0, 1, 1, 0, 0, 1, 1, 0, 1, 0, 0, 0), sums_for(minus_book(2, 2), 4))

    def test_wrong_inputs_in_sequence(self):
        for wrong in (None, 0, "x", [free_book(2, 1)]):
            self.refuses(NO_BOOK, whole_sum, wrong, None)
            self.refuses(NO_BOOK, sums_for, wrong, None)
        for wrong in NUMBERS_NOT + (-1,):
            self.refuses(number("most"), whole_sum, free_book(2, 2), wrong)
        for wrong in NUMBERS_NOT + (-1, 0, 1):
            self.refuses(number("length"), sums_for, free_book(2, 2), wrong)
        self.refuses(MANY, whole_sum, exchange_book(2, 2), 10)
        self.refuses(MANY, whole_sum, exchange_book(2, 4), 5)
        self.refuses(MANY, sums_for, exchange_book(2, 2), 10)
        self.refuses(MANY, sums_for, exchange_book(2, 4), 5)
        # All words are rules: so many rows are common.
        self.refuses(MANY, sums_for, shut_book(2, 4), 2)
        self.refuses(MANY, sums_for, shut_book(37, 2), 2)
        self.refuses(NOT_PAIRED, whole_sum, exchange_book(3, 3), 3)
        self.refuses(NOT_PAIRED, whole_sum, free_book(2, 1), 2)
        for book in other_shadows():
            self.refuses(NOT_PAIRED, whole_sum, book, most_of(book))


if __name__ == "__main__":
    unittest.main()
