import unittest
from fractions import Fraction

from asking import MANY, NUMBERS_NOT, Asks, number
from ruleshadows.books import book_led, exchange_book, free_book, minus_book, shut_book
from ruleshadows.follows import count_long
from ruleshadows.orders import heads
from ruleshadows.rests import count
from ruleshadows.series import fraction, unrolled
from ruleshadows.settled import is_tidy
from ruleshadows.shadows import shadow
from samples import bent_book, chance_table, longest, small_books, told, told_book
from test_orders import orders, wrong_orders
from tidysamples import tidy_pairs, word_books


def times(one, other):
    found = [0] * (len(one) + len(other) - 1)
    for i, x in enumerate(one):
        for k, y in enumerate(other):
            found[i + k] += x * y
    return found


def least_below(numbers):
    """The least number of steps back by which each of these is told by those ahead of it, from that one on: the
    rank of the square of numbers[i + k], by elimination with fractions."""
    size = (len(numbers) + 1) // 2
    rows = [[Fraction(numbers[i + k]) for k in range(size)] for i in range(size)]
    rank = 0
    for column in range(size):
        best = next((row for row in rows[rank:] if row[column]), None)
        if best is None:
            continue
        rows.remove(best)
        rows.insert(rank, best)
        for at in range(rank + 1, size):
            factor = rows[at][column] / best[column]
            rows[at] = [x - factor * y for x, y in zip(rows[at], best)]
        rank += 1
    return rank


def negated(numbers):
    return tuple(-x if k % 2 else x for k, x in enumerate(numbers))


class Series(Asks, unittest.TestCase):
    def test_unrolled(self):
        self.assertEqual(unrolled([1], [1, -1, -1], 6), [1, 1, 2, 3, 5, 8, 13])
        self.assertEqual(unrolled((2, -1), (1,), 3), [2, -1, 0, 0])
        self.assertEqual(unrolled([0, 0, 1], [1, -2], 5), [0, 0, 1, 2, 4, 8])
        self.assertEqual(unrolled([1, 1], [1, 0, 0, -1], 0), [1])
        self.assertEqual(unrolled([0], [1, 5, 7], 2), [0, 0, 0])
        self.assertEqual(unrolled([1, 2, 3, 4], [1, 1], 1), [1, 1])
        self.assertEqual(len(unrolled([1], [1, -2], 1000)), 1001)
        self.assertEqual(unrolled([1], [1, -2], 1000)[1000], 2 ** 1000)
        for over, below in (([3, 1, -4], [1, 2, 0, -1]), ([1], [1]), ([5, 0, 0, 0, 0, 7], [1, -3, 1])):
            found = unrolled(over, below, 9)
            self.assertEqual(times(found, below)[:10], (over + [0] * 10)[:10])

    def test_fractions_unroll_to_the_counts(self):
        for book, order in tidy_pairs():
            over, below = fraction(book, order)
            self.assertIsInstance(fraction(book, order), tuple)
            self.assertTrue(isinstance(over, tuple) and isinstance(below, tuple))
            most = longest(book)
            self.assertEqual(unrolled(over, below, most), [count(book, k) for k in range(most + 1)], told(book))
            for length in (20, 50):
                self.assertEqual(unrolled(over, below, length)[length], count_long(book, order, length))

    def test_as_few_numbers_as_can_be(self):
        for book, order in tidy_pairs(1):
            over, below = fraction(book, order)
            where = (told(book), order, over, below)
            self.assertEqual((over[0], below[0]), (1, 1), where)
            self.assertTrue(over[-1] and below[-1], where)
            self.assertTrue(len(over) <= book.letters + 1 and len(below) <= book.letters + 1, where)
            # Behind what over tells, each number is told by those ahead of it: by no fewer than below has.
            numbers = unrolled(over, below, 40)
            self.assertEqual(least_below(numbers), max(len(below) - 1, len(over)), where)

    def test_examples(self):
        self.assertEqual(fraction(free_book(3, 4), [0, 1, 2, 3]), ((1,), (1, -4)))
        self.assertEqual(fraction(shut_book(3, 4), [0, 1, 2, 3]), ((1, 4), (1,)))
        self.assertEqual(fraction(exchange_book(3, 3), [1, 0, 2]), ((1,), (1, -3, 3, -1)))
        self.assertEqual(fraction(minus_book(3, 3), [1, 0, 2]), ((1, 3, 3, 1), (1,)))
        self.assertEqual(fraction(told_book(3, 2, [{(0, 0): 1}]), [0, 1]), ((1, 1), (1, -1, -1)))
        self.assertEqual(fraction(told_book(3, 2, [{(0, 1): 1}]), [0, 1]), ((1,), (1, -2, 1)))
        # One rest of the length 0, two of all others: 1 + t stands over 1 less t, all else is left out.
        self.assertEqual(fraction(told_book(3, 2, [{(0, 1): 1}, {(1, 0): 1}]), [0, 1]), ((1, 1), (1, -1)))
        self.assertEqual(fraction(told_book(3, 2, [{(0, 0): 1}, {(1, 1): 1}]), [0, 1]), ((1, 1), (1, -1)))
        self.assertEqual(fraction(free_book(3, 1), [0]), ((1,), (1, -1)))
        nine = fraction(exchange_book(97, 9), list(range(9)))
        self.assertEqual((nine[0], len(nine[1]), nine[1][:3]), ((1,), 10, (1, -9, 36)))

    def test_heart_the_same_by_all_orders(self):
        for book in small_books() + word_books():
            if book.letters < 4:
                found = {fraction(book, order) for order in orders(book.letters) if is_tidy(book, order)}
                self.assertLessEqual(len(found), 1, told(book))

    def test_heart_the_shadow_by_the_order_read_backwards(self):
        for book in small_books():
            for order in orders(book.letters)[:4]:
                dark, back = shadow(book), order[::-1]
                both = sorted(heads(book, order) + heads(dark, back))
                self.assertEqual(both, [(a, b) for a in range(book.letters) for b in range(book.letters)])
                self.assertIs(is_tidy(dark, back), is_tidy(book, order), (told(book), order))
        for book, order in tidy_pairs():
            over, below = fraction(book, order)
            self.assertEqual(fraction(shadow(book), order[::-1]), (negated(below), negated(over)), told(book))

    def test_books_led_have_the_same(self):
        for book, order in tidy_pairs(1):
            other = book_led(book, chance_table(book.prime, book.letters, 5))
            if is_tidy(other, order):
                self.assertEqual(fraction(other, order), fraction(book, order))

    def test_wrong_inputs_in_sequence(self):
        wrong_orders(self, fraction, exchange_book(3, 2))
        self.refuses("NotTidy", fraction, bent_book(3), [0, 1])
        for wrong in (None, 1, "1", [], (), [True], [1, None], [1.0], [[1]], {0: 1}, {1}):
            self.refuses("BadRow", unrolled, wrong, [1], -1)
            self.refuses("BadRow", unrolled, [1], wrong, -1)
        for wrong in ([0, 1], [2], [-1, 1], (0,)):
            self.refuses("BadRow", unrolled, [1], wrong, -1)
        for wrong in NUMBERS_NOT + (-1,):
            self.refuses(number("most"), unrolled, [3], [1], wrong)
        self.refuses(MANY, unrolled, [1], [1], 1001)
        self.refuses(MANY, unrolled, [1], [1], 10 ** 30)


if __name__ == "__main__":
    unittest.main()
