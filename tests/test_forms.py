import unittest

import plain
from asking import MANY, NO_BOOK, NUMBERS_NOT, Asks, number
from formsamples import many_books, most_of, other_shadows, paired_shadows, weighed
from keepsamples import joined
from restsamples import count_of, rest_of, rests_of, unit_of
from ruleshadows.books import book_led, exchange_book, free_book, minus_book, read_back, shut_book
from ruleshadows.forms import is_paired, pair_square, top_length, turner
from ruleshadows.formfamilies import square_book
from ruleshadows.rests import count, ending, idle, rest_product
from ruleshadows.shadows import shadow
from samples import chance_row, chance_table, told, told_book

LONG = {1: 6, 2: 5, 3: 4, 4: 3}


def plain_square(book, first, second):
    """The numbers at the only rest word of all rest words beside one another."""
    last = plain.spot(book.letters, rests_of(book, first + second)[0])
    return tuple(tuple(rest_of(book, first + second, unit_of(book.letters, one + other))[last]
                       for other in rests_of(book, second)) for one in rests_of(book, first))


def plain_top(book, most):
    counts = [count_of(book, length) for length in range(most + 1)]
    return counts.index(0) - 1 if 0 in counts else None


def plain_paired(book, top):
    """Whether a book with this top is paired."""
    if count_of(book, top) != 1:
        return False
    for first in range(top + 1):
        square = plain_square(book, first, top - first)
        if len(square) != len(square[0]) or plain.rank(book.prime, square) < len(square):
            return False
    return True


def paired_books():
    return [(shadow(book), top) for book, top in paired_shadows()]


class Forms(Asks, unittest.TestCase):
    def test_top_length(self):
        some = {True: 0, False: 0}
        for book in many_books():
            for most in range(LONG[book.letters] + 1):
                found = top_length(book, most)
                self.assertEqual(found, plain_top(book, most), (told(book), most))
                end = ending(book, most)
                self.assertEqual(found, None if end is None else end - 1)
                some[found is None] += 1
        self.assertTrue(some[True] > 50 and some[False] > 50)
        self.assertIsNone(top_length(free_book(2, 1), 10 ** 30))
        self.assertEqual(top_length(shut_book(2, 1), 10 ** 30), 1)
        self.assertEqual(top_length(shut_book(2, 9), 2), 1)
        self.assertIsNone(top_length(shut_book(2, 9), 1))

    def test_squares_by_full_rows(self):
        some = 0
        for book in many_books():
            for length in range(LONG[book.letters] + 1):
                for first in range(length + 1):
                    if count_of(book, length) != 1:
                        self.refuses(("BadBook", "last"), pair_square, book, first, length - first)
                        continue
                    found = pair_square(book, first, length - first)
                    self.assertTrue(isinstance(found, tuple) and all(isinstance(row, tuple) for row in found))
                    self.assertEqual(found, plain_square(book, first, length - first), (told(book), first, length))
                    some += length > 1
        self.assertGreater(some, 60)

    def test_example_by_hand(self):
        book = shadow(told_book(5, 2, [{(0, 1): 1, (1, 0): -2}]))
        self.assertEqual(book, told_book(5, 2, [{(0, 0): 1}, {(1, 1): 1}, {(0, 1): 2, (1, 0): 1}]))
        self.assertEqual(rests_of(book, 2), [(1, 0)])
        self.assertEqual(pair_square(book, 1, 1), ((0, 2), (1, 0)))
        self.assertEqual(turner(book, 3), ((2, 0), (0, 3)))
        self.assertEqual(pair_square(book, 0, 2), ((1,),))
        self.assertEqual(pair_square(free_book(3, 4), 0, 0), ((1,),))
        self.assertEqual(pair_square(free_book(3, 1), 40, 60), ((1,),))

    def test_paired_by_full_rows(self):
        some = {True: 0, False: 0}
        for book in many_books():
            for most in range(LONG[book.letters] + 1):
                top = plain_top(book, most)
                wanted = top is not None and plain_paired(book, top)
                self.assertIs(is_paired(book, most), wanted, (told(book), most))
                some[wanted] += 1
        self.assertTrue(some[True] > 20 and some[False] > 100, some)

    def test_paired_from_the_length_above_the_top_on(self):
        for book, top in paired_books():
            for most in range(most_of(book) + 1):
                self.assertIs(is_paired(book, most), most > top, (told(book), most))
                self.assertEqual(top_length(book, most), top if most > top else None)
        for book in [shadow(other) for other in other_shadows()]:
            for most in range(most_of(book) + 1):
                self.assertIs(is_paired(book, most), False, (told(book), most))
        self.assertIs(is_paired(shut_book(5, 1), 10 ** 20), True)

    def test_heart_paired_exactly_if_but_one_row_is_idle(self):
        some = {True: 0, False: 0}
        for book in many_books():
            most = most_of(book)
            top = top_length(book, most)
            if top is None:
                continue
            some[is_paired(book, most)] += 1
            for side in (0, 1):
                rows = [len(idle(book, length, side)) for length in range(top + 1)]
                self.assertIs(rows == [0] * top + [1], is_paired(book, most), (told(book), side, rows))
        self.assertTrue(some[True] > 15 and some[False] > 8, some)

    def test_facts_of_paired_books(self):
        for book, top in paired_books():
            for length in range(top + 1):
                self.assertEqual(count(book, length), count(book, top - length))
        for book in many_books():
            most = most_of(book)
            table = chance_table(book.prime, book.letters, 4)
            for other in (read_back(book), book_led(book, table)):
                self.assertIs(is_paired(other, most), is_paired(book, most), told(book))
                self.assertEqual(top_length(other, most), top_length(book, most))

    def test_turner_by_all_words(self):
        for book, top in paired_books():
            letters, prime = book.letters, book.prime
            table = turner(book, most_of(book))
            self.assertTrue(isinstance(table, tuple) and all(isinstance(row, tuple) for row in table))
            last = plain.spot(letters, rests_of(book, top)[0])
            for k, row in enumerate(table):
                self.assertTrue(all(0 <= number < prime for number in row))
                for word in plain.words(letters, top - 1):
                    ahead = rest_of(book, top, unit_of(letters, (k,) + word))[last]
                    behind = sum(row[b] * rest_of(book, top, unit_of(letters, word + (b,)))[last]
                                 for b in range(letters))
                    self.assertEqual(ahead, behind % prime, told(book))
            self.assertEqual(turner(book, top + 1), table)

    def test_heart_the_turner_leads_the_book_to_itself_and_exchanges_what_stands_beside(self):
        for book, top in paired_books():
            letters, prime = book.letters, book.prime
            table = turner(book, top + 1)
            self.assertEqual(book_led(book, table), book, told(book))
            for first in range(top + 1):
                for seed in range(3):
                    one = chance_row(letters ** first, prime, seed)
                    other = chance_row(letters ** (top - first), prime, seed + 7)
                    led = plain.led(prime, letters, first, one, table)
                    self.assertEqual(rest_product(book, first, one, top - first, other),
                                     rest_product(book, top - first, other, first, led), told(book))

    def test_facts_of_turners(self):
        unlike = 0
        for book, top in paired_books():
            letters, prime = book.letters, book.prime
            table = turner(book, top + 1)
            self.assertEqual(turner(read_back(book), top + 1), plain.undone(prime, table), told(book))
            lead = chance_table(prime, letters, 9)
            wanted = joined(prime, joined(prime, plain.undone(prime, lead), table), lead)
            self.assertEqual(turner(book_led(book, lead), top + 1), wanted, told(book))
            unlike += wanted != table
        self.assertGreater(unlike, 1)
        self.assertEqual(turner(shadow(exchange_book(7, 2)), 3), ((6, 0), (0, 6)))
        self.assertEqual(turner(shadow(exchange_book(7, 3)), 4), ((1, 0, 0), (0, 1, 0), (0, 0, 1)))
        self.assertEqual(turner(minus_book(2, 1), 2), ((1,),))

    def test_not_paired(self):
        # Only ab is left of length 2: nothing makes it with b ahead or a behind.
        book = told_book(3, 2, [{(0, 0): 1}, {(1, 0): 1}, {(1, 1): 1}])
        self.assertEqual(pair_square(book, 1, 1), ((0, 1), (0, 0)))
        self.assertIs(is_paired(book, 4), False)
        # Two rests in the last length.
        self.assertIs(is_paired(shut_book(3, 2), 4), False)
        # All words are nothing but those of ab, bc: three rests, then two, then one. Such a square has other rows.
        book = told_book(2, 3, [{pair: 1} for pair in plain.words(3, 2) if pair not in ((0, 1), (1, 2))])
        self.assertEqual((top_length(book, 4), count(book, 3)), (3, 1))
        self.assertEqual(pair_square(book, 1, 2), ((0, 1), (0, 0), (0, 0)))
        self.assertIs(is_paired(book, 4), False)
        for some in other_shadows():
            self.refuses(("BadBook", "paired"), turner, shadow(some), most_of(some))

    def test_wrong_inputs_in_sequence(self):
        book = shadow(square_book(5, [[1, 2], [0, 1]]))
        for wrong in (None, 0, "x", [book], (5, 2, ())):
            self.refuses(NO_BOOK, top_length, wrong, None)
            self.refuses(NO_BOOK, pair_square, wrong, None, None)
            self.refuses(NO_BOOK, is_paired, wrong, None)
            self.refuses(NO_BOOK, turner, wrong, None)
        for wrong in NUMBERS_NOT + (-1,):
            for function in (top_length, is_paired, turner):
                self.refuses(number("most"), function, book, wrong)
            self.refuses(number("first"), pair_square, book, wrong, wrong)
            self.refuses(number("second"), pair_square, book, 99, wrong)
        for function in (top_length, is_paired, turner):
            self.refuses(MANY, function, book, 10)
            self.refuses(MANY, function, free_book(3, 9), 4)
            self.refuses(MANY, function, shadow(exchange_book(3, 4)), 5)
        self.refuses(MANY, pair_square, book, 5, 5)
        self.refuses(MANY, pair_square, book, 0, 10)
        self.refuses(("BadBook", "last"), pair_square, book, 1, 0)
        self.refuses(("BadBook", "last"), pair_square, book, 4, 5)
        for most in range(3):
            self.refuses(("BadBook", "paired"), turner, book, most)
        self.refuses(("BadBook", "paired"), turner, free_book(2, 2), 9)
        self.refuses(("BadBook", "paired"), turner, weighed(3, 2, 1), 9)


if __name__ == "__main__":
    unittest.main()
