import unittest

import plain
from asking import MANY, NO_BOOK, NUMBERS_NOT, Asks, number
from makingsamples import all_books, counts_of, few_pairs, undone_counts
from ruleshadows.books import Rules, exchange_book, free_book, minus_book, shut_book
from ruleshadows.ladders import fits
from ruleshadows.products import black_product, spaced_book, white_product, woven
from ruleshadows.rests import count, rest_words
from ruleshadows.shadows import is_under, shadow
from samples import bent_book, chance_book, chance_row, few_books, heart_book, longest, told, told_book


def plain_woven(one, other, row, second):
    """woven, word by word."""
    n, m = one.letters, other.letters
    found = []
    for a, b in plain.words(n * m, 2):
        (v, w), (x, y) = divmod(a, m), divmod(b, m)
        found.append(row[v * n + x] * second[w * m + y] % one.prime)
    return tuple(found)


def short(letters):
    return {1: 6, 2: 6, 3: 4, 4: 4, 6: 3, 9: 3}[letters]


def plain_spaced(book, step):
    """The rules of spaced_book: sums of pairs of rest words that are nothing when written out."""
    prime, letters = book.prime, book.letters
    some = plain.rest_words(prime, letters, book.rules, step)
    room = plain.nothing(prime, letters, book.rules, 2 * step)
    every = plain.words(letters, 2 * step)
    pairs = [one + other for one in some for other in some]
    rests = [plain.left(prime, room, plain.unit(len(every), every.index(word))) for word in pairs]
    return Rules(prime, len(some), plain.dark(prime, plain.transposed(rests), len(some) ** 2))


class Products(Asks, unittest.TestCase):
    def test_woven(self):
        for one, other in few_pairs():
            for seed in range(3):
                row = chance_row(one.letters ** 2, 2 * one.prime, seed)
                second = chance_row(other.letters ** 2, 2 * one.prime, seed + 9)
                found = woven(one, other, row, second)
                self.assertIsInstance(found, tuple)
                self.assertEqual(found, plain_woven(one, other, row, second))
        self.assertEqual(woven(free_book(5, 1), free_book(5, 2), [3], [1, 2, 3, -1]), (3, 1, 4, 2))
        self.assertEqual(woven(free_book(5, 2), free_book(5, 1), [1, 2, 3, -1], [3]), (3, 1, 4, 2))
        found = woven(free_book(5, 3), free_book(5, 3), plain.unit(9, 5), plain.unit(9, 6))
        # (1, 2) of one and (2, 0) of other are the letters (1, 2) and (2, 0): 5 and 6.
        self.assertEqual(found, plain.unit(81, 5 * 9 + 6))

    def test_products_by_their_own_words(self):
        for one, other in few_pairs():
            n, m = one.letters, other.letters
            white = [plain_woven(one, other, rule, row) for rule in one.rules for row in plain.identity(m * m)]
            white += [plain_woven(one, other, row, rule) for row in plain.identity(n * n) for rule in other.rules]
            black = [plain_woven(one, other, rule, second) for rule in one.rules for second in other.rules]
            self.assertEqual(white_product(one, other), Rules(one.prime, n * m, white), told(one))
            self.assertEqual(black_product(one, other), Rules(one.prime, n * m, black), told(one))
            self.assertIs(is_under(white_product(one, other), black_product(one, other)), True)

    def test_examples_by_hand(self):
        for prime in (2, 3, 97):
            one = free_book(prime, 1)
            self.assertEqual(white_product(one, one), one)
            book = white_product(exchange_book(5, 2), exchange_book(5, 2))
            self.assertEqual((book.letters, len(book.rules)), (4, 7))
            self.assertEqual(counts_of(book, 4), [1, 4, 9, 16, 25])
        self.assertEqual(white_product(exchange_book(5, 3), exchange_book(5, 3)).letters, 9)
        self.assertEqual(counts_of(white_product(exchange_book(97, 3), exchange_book(97, 3)), 3), [1, 9, 36, 100])
        self.assertEqual(len(black_product(exchange_book(97, 3), minus_book(97, 3)).rules), 18)

    def test_heart_shadows(self):
        for one, other in few_pairs():
            self.assertEqual(shadow(white_product(one, other)), black_product(shadow(one), shadow(other)), told(one))
            self.assertEqual(shadow(black_product(one, other)), white_product(shadow(one), shadow(other)), told(one))

    def test_heart_counts_of_all_books(self):
        pairs = few_pairs() + [(bent_book(3), bent_book(3)), (exchange_book(3, 2), heart_book(3, 1, 1))]
        for one, other in pairs:
            most = short(one.letters * other.letters)
            wanted = [count(one, d) * count(other, d) for d in range(most + 1)]
            self.assertEqual(counts_of(white_product(one, other), most), wanted, (told(one), told(other)))

    def test_heart_both_fit_if_the_books_do(self):
        some = 0
        for one, other in few_pairs():
            most = short(one.letters * other.letters)
            if not (fits(one, most) and fits(other, most)):
                continue
            some += 1
            for function in (white_product, black_product):
                self.assertIs(fits(function(one, other), most), True, (told(one), told(other)))
            a, b = counts_of(shadow(one), most), counts_of(shadow(other), most)
            black = counts_of(black_product(one, other), most)
            signed = [(-1) ** i * a[i] * b[i] for i in range(most + 1)]
            self.assertEqual(undone_counts(black), signed, (told(one), told(other)))
        self.assertGreater(some, 7)

    def test_facts(self):
        for prime in (2, 3):
            few, more = all_books(prime, 1), all_books(prime, 2)
            for function in (white_product, black_product):
                for one, other, third in [(few[0], more[5], more[4]), (more[3], few[1], more[2]),
                                          (more[1], more[6], few[0]), (more[2], more[3], more[5])]:
                    if one.letters * other.letters * third.letters < 9:
                        self.assertEqual(function(function(one, other), third), function(one, function(other, third)))
        for book in few_books():
            free, shut = free_book(book.prime, 1), shut_book(book.prime, 1)
            self.assertEqual(white_product(free, book), book)
            self.assertEqual(white_product(book, free), book)
            self.assertEqual(black_product(shut, book), book)
            self.assertEqual(black_product(book, shut), book)

    def test_spaced_by_the_plain_way(self):
        for book in few_books():
            for step in range(1, longest(book) // 2 + 1):
                if 1 <= count(book, step) <= 9:
                    found = spaced_book(book, step)
                    self.assertEqual(found, plain_spaced(book, step), (told(book), step))
                    self.assertEqual(found.letters, len(rest_words(book, step)))
            self.assertEqual(spaced_book(book, 1), book)

    def test_heart_spaced_counts(self):
        for book in few_books() + [chance_book(3, 2, 1, 8), chance_book(2, 2, 2, 9)]:
            bound = {1: 12, 2: 9, 3: 6}[book.letters]
            for step in range(1, bound // 2 + 1):
                if 1 <= count(book, step) <= 9:
                    found = spaced_book(book, step)
                    for length in range(bound // step + 1):
                        if found.letters ** length <= 1000:
                            self.assertEqual(count(found, length), count(book, step * length), (told(book), step))

    def test_facts_of_spacing(self):
        some = 0
        for book in few_books() + [told_book(3, 2, [{(0, 0): 1}, {(1, 1): 1}]), exchange_book(2, 2)]:
            for step, second in ((2, 2), (1, 2), (2, 1), (3, 1), (2, 3)):
                if book.letters ** (2 * step * second) > 1000 or not 1 <= count(book, step) <= 9:
                    continue
                once = spaced_book(book, step)
                if once.letters ** (2 * second) <= 1000 and 1 <= count(once, second) <= 9:
                    self.assertEqual(spaced_book(once, second), spaced_book(book, step * second), told(book))
                    some += step * second > 3
            for step, length in ((2, 2), (2, 3), (2, 4)):
                if book.letters ** (step * length) <= 1000 and 1 <= count(book, step) <= 9:
                    made = spaced_book(book, step)
                    if made.letters ** length <= 1000 and fits(book, step * length):
                        self.assertIs(fits(made, length), True, told(book))
        self.assertGreater(some, 3)

    def test_spaced_example_by_hand(self):
        book = spaced_book(exchange_book(3, 2), 2)
        self.assertEqual(book, told_book(3, 3, [
            {(0, 1): 1, (1, 0): -1}, {(0, 2): 1, (2, 0): -1}, {(1, 2): 1, (2, 1): -1}, {(0, 2): 1, (1, 1): -1}]))
        self.assertEqual(counts_of(book, 3), [1, 3, 5, 7])
        self.assertEqual(spaced_book(free_book(2, 1), 200), free_book(2, 1))
        self.assertEqual(spaced_book(free_book(5, 3), 2), free_book(5, 9))
        self.assertEqual(spaced_book(minus_book(5, 3), 2), shut_book(5, 3))
        self.assertEqual(spaced_book(exchange_book(5, 9), 1), exchange_book(5, 9))

    def test_wrong_inputs_in_sequence(self):
        calls = [(woven, (None, None)), (white_product, ()), (black_product, ())]
        for function, more in calls:
            for wrong in (None, 0, "x", [free_book(2, 1)]):
                self.refuses(NO_BOOK, function, wrong, None, *more)
                self.refuses(NO_BOOK, function, free_book(2, 9), wrong, *more)
            self.refuses(("BadBook", "prime"), function, free_book(2, 9), free_book(3, 9), *more)
            self.refuses(number("letters"), function, free_book(3, 2), free_book(3, 5), *more)
        one, other = free_book(3, 2), free_book(3, 3)
        for wrong in (None, [1, 2, 3], [1] * 9, [1, 2, 3, True], "abcd"):
            self.refuses("BadRow", woven, one, other, wrong, None)
        for wrong in (None, [1, 2, 3], [1] * 4, [1] * 8 + [True], "abcdefghi"):
            self.refuses("BadRow", woven, one, other, [1, 2, 3, 4], wrong)

    def test_wrong_steps_in_sequence(self):
        for wrong in (None, 0, "x", [free_book(2, 1)]):
            self.refuses(NO_BOOK, spaced_book, wrong, 0)
        for wrong in NUMBERS_NOT + (0, -1):
            self.refuses(number("step"), spaced_book, free_book(3, 2), wrong)
        self.refuses(MANY, spaced_book, shut_book(3, 2), 10)
        self.refuses(number("letters"), spaced_book, shut_book(3, 2), 9)
        self.refuses(number("letters"), spaced_book, shut_book(3, 1), 2)
        self.refuses(number("letters"), spaced_book, free_book(3, 2), 9)
        self.refuses(number("letters"), spaced_book, free_book(3, 4), 2)
        # Too many words of twice the step are told behind a wrong number of letters.
        self.refuses(MANY, spaced_book, exchange_book(3, 2), 5)
        self.refuses(MANY, spaced_book, exchange_book(3, 2), 8)
        self.refuses(number("letters"), spaced_book, exchange_book(3, 2), 9)


if __name__ == "__main__":
    unittest.main()
