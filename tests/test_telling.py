import unittest

from asking import MANY, NO_BOOK, NUMBERS_NOT, Asks, number
from formsamples import bent_sum, many_books, most_of, other_shadows, paired_shadows
from restsamples import count_of
from ruleshadows.books import Rules, exchange_book, free_book, shut_book
from ruleshadows.forms import is_paired, top_length
from ruleshadows.formfamilies import ring_sum
from ruleshadows.ladders import first_lost, fits
from ruleshadows.rests import count
from ruleshadows.shadows import shadow
from ruleshadows.sums import rules_of_sum
from ruleshadows.telling import counts_back, told_counts
from samples import told, told_book

NO_END = ("BadBook", "ending")
PLAIN = {1: 6, 2: 5, 3: 4, 4: 3}


def ending_books():
    """Books the shadows of which end, with the length they end below."""
    found = []
    for book in many_books():
        top = top_length(shadow(book), most_of(book))
        if top is not None:
            found.append((book, top))
    return found


def shadow_counts(book, top):
    return [count(shadow(book), i) for i in range(top + 1)]


class Telling(Asks, unittest.TestCase):
    def test_told_by_their_own_sums(self):
        some = 0
        for book, top in ending_books():
            b = shadow_counts(book, top)
            for length in (0, 1, 2, 9):
                a = told_counts(book, top + 1, length)
                self.assertIsInstance(a, list)
                self.assertEqual((len(a), a[0]), (length + 1, 1))
                for m in range(1, length + 1):
                    self.assertEqual(sum((-1) ** i * b[i] * a[m - i] for i in range(min(top, m) + 1)), 0, told(book))
            some += 1
        self.assertGreater(some, 30)

    def test_back_by_their_own_sums(self):
        some = 0
        for book, top in ending_books():
            b = shadow_counts(book, top)
            if b[top] != 1:
                self.refuses(("BadBook", "last"), counts_back, book, top + 1, 5)
                continue
            many = 12
            back = counts_back(book, top + 1, many)
            self.assertIsInstance(back, list)
            self.assertEqual(len(back), many)
            a = {-k - 1: number for k, number in enumerate(back)}
            a[0] = 1
            self.assertEqual([a[-k] for k in range(1, top)], [0] * (top - 1))
            for m in range(0, top - many - 1, -1):
                self.assertEqual(sum((-1) ** i * b[i] * a[m - i] for i in range(top + 1)), 0, told(book))
            for less in range(many):
                self.assertEqual(counts_back(book, top + 1, less), back[:less])
            some += 1
        self.assertGreater(some, 20)

    def test_heart_the_counts_of_a_book_that_fits(self):
        some = 0
        for book, top in ending_books():
            most = most_of(book)
            numbers = told_counts(book, most, most)
            for length in range(most + 1):
                if fits(book, length):
                    some += 1
                    self.assertEqual(numbers[length], count(book, length), (told(book), length))
                    if length <= PLAIN[book.letters]:
                        self.assertEqual(numbers[length], count_of(book, length))
        self.assertGreater(some, 150)

    def test_a_book_that_does_not_fit_has_other_counts(self):
        book = rules_of_sum(*bent_sum(3))
        self.assertEqual(first_lost(book, 5), (4, 2))
        self.assertEqual(told_counts(book, 4, 6), [1, 3, 6, 10, 15, 21, 28])
        self.assertEqual([count(book, k) for k in range(6)], [1, 3, 6, 10, 17, 30])

    def test_heart_of_paired_shadows_the_counts_come_back(self):
        for book, top in paired_shadows():
            self.assertTrue(is_paired(shadow(book), top + 1))
            numbers = told_counts(book, top + 1, 20)
            sign = 1 if top & 1 else -1
            wanted = [0] * (top - 1) + [sign * x for x in numbers]
            self.assertEqual(counts_back(book, top + 1, top - 1 + 21), wanted, told(book))

    def test_examples(self):
        self.assertEqual(told_counts(exchange_book(5, 2), 3, 6), [1, 2, 3, 4, 5, 6, 7])
        self.assertEqual(counts_back(exchange_book(5, 2), 3, 6), [0, -1, -2, -3, -4, -5])
        self.assertEqual(counts_back(exchange_book(5, 3), 4, 6), [0, 0, 1, 3, 6, 10])
        self.assertEqual(told_counts(free_book(2, 1), 10 ** 20, 3), [1, 1, 1, 1])
        self.assertEqual(counts_back(free_book(2, 1), 2, 3), [1, 1, 1])
        self.assertEqual(told_counts(free_book(3, 9), 2, 3), [1, 9, 81, 729])
        ring = rules_of_sum(7, 3, 3, ring_sum(7, 3, 1, 2))
        self.assertEqual(told_counts(ring, 4, 1000)[1000], 1002 * 1001 // 2)
        self.assertEqual(counts_back(ring, 4, 1000)[999], 999 * 998 // 2)
        self.assertEqual(told_counts(exchange_book(5, 2), 3, 0), [1])
        self.assertEqual(counts_back(exchange_book(5, 2), 3, 0), [])
        self.assertEqual(told_counts(told_book(3, 2, [{(0, 1): 1}]), 3, 5), [1, 2, 3, 4, 5, 6])

    def test_wrong_inputs_in_sequence(self):
        for function, part in ((told_counts, "length"), (counts_back, "many")):
            for wrong in (None, 0, "x", [free_book(2, 1)]):
                self.refuses(NO_BOOK, function, wrong, None, None)
            for wrong in NUMBERS_NOT + (-1,):
                self.refuses(number("most"), function, exchange_book(5, 2), wrong, wrong)
                self.refuses(number(part), function, exchange_book(5, 2), 99, wrong)
            self.refuses(number(part), function, shut_book(5, 2), 99, 1001)
            self.refuses(MANY, function, shut_book(5, 2), 10, 1000)
            self.refuses(MANY, function, exchange_book(5, 4), 5, 0)
            for most in range(3):
                self.refuses(NO_END, function, exchange_book(5, 2), most, 0)
            for book in (shut_book(5, 2), shut_book(2, 1), Rules(3, 2, [[1, 0, 0, 0]])):
                self.refuses(NO_END, function, book, 9, 0)
        self.refuses(("BadBook", "last"), counts_back, free_book(5, 2), 3, 0)
        for book in other_shadows():
            found = top_length(shadow(book), most_of(book))
            if found is not None and count(shadow(book), found) > 1:
                self.refuses(("BadBook", "last"), counts_back, book, most_of(book), 3)


if __name__ == "__main__":
    unittest.main()
