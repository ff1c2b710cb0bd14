import itertools
import unittest

import plain
from asking import MANY, NUMBERS_NOT, Asks, number
from formsamples import weighed
from keepsamples import joined
from ruleshadows.books import Rules, exchange_book, free_book, weighed_book
from ruleshadows.formfamilies import ring_sum, signed_sum, square_book
from ruleshadows.forms import is_paired, top_length, turner
from ruleshadows.shadows import shadow
from samples import Numbers, chance_row, chance_table

TABLES_NOT = (None, 0, [], [[]], [[1, 0]], [[1, 0], [0]], [[1, 0], [0, True]], [1, 0, 0, 1], "ab", [[0] * 10] * 10)


def sign_of(word):
    """1, -1 or 0 by exchanging neighbours until the letters ascend."""
    if sorted(word) != list(range(len(word))):
        return 0
    word, sign = list(word), 1
    for _ in word:
        for k in range(len(word) - 1):
            if word[k] > word[k + 1]:
                word[k], word[k + 1], sign = word[k + 1], word[k], -sign
    return sign


class FormFamilies(Asks, unittest.TestCase):
    def test_square_books(self):
        self.assertEqual(square_book(5, [[1, 7], [0, -1]]), Rules(5, 2, [[1, 2, 0, 4]]))
        self.assertEqual(square_book(5, ((0, 0), (5, 0))), free_book(5, 2))
        self.assertEqual(square_book(2, [[1]]), Rules(2, 1, [[1]]))
        self.assertEqual(len(square_book(97, [[3] * 9] * 9).rules), 1)
        for prime, letters in ((3, 1), (5, 2), (2, 3), (7, 3), (3, 9)):
            square = Numbers(prime).rows(letters, letters, 3 * prime)
            self.assertEqual(square_book(prime, square), Rules(prime, letters, [sum(square, [])]))

    def test_heart_the_shadow_is_paired_exactly_if_the_square_can_be_undone(self):
        some = {True: 0, False: 0}
        for prime, letters, seeds in ((2, 2, 12), (3, 2, 12), (97, 2, 4), (2, 3, 10), (5, 3, 6), (2, 4, 8), (7, 4, 3)):
            for seed in range(seeds):
                square = Numbers(seed).rows(letters, letters, prime, 1 + seed % 2)
                back = plain.undone(prime, square)
                dark = shadow(square_book(prime, square))
                some[back is not None] += 1
                if back is None:
                    self.assertFalse(is_paired(dark, 3) and top_length(dark, 3) == 2, (prime, square))
                    continue
                self.assertIs(is_paired(dark, 3), True, (prime, square))
                self.assertEqual(top_length(dark, 3), 2)
                self.assertEqual(turner(dark, 3), joined(prime, square, plain.transposed(back)), (prime, square))
        self.assertTrue(some[True] > 20 and some[False] > 10, some)

    def test_fact_weighed_books(self):
        for prime, letters in ((2, 1), (5, 1), (3, 2), (7, 2), (5, 3), (97, 3), (2, 3)):
            for seed in range(3):
                row = chance_row(letters * letters, prime, seed)
                weights = [[0 if a == b else 1 + row[a * letters + b] % (prime - 1) if prime > 2 else 1
                            for a in range(letters)] for b in range(letters)]
                dark = shadow(weighed_book(prime, weights))
                most = letters + 1
                self.assertTrue(is_paired(dark, most))
                self.assertEqual(top_length(dark, most), letters)
                wanted = []
                for k in range(letters):
                    times = 1
                    for other in range(letters):
                        if other > k:
                            times = times * -weights[other][k]
                        if other < k:
                            back = next(x for x in range(1, prime) if x * weights[k][other] % prime == 1)
                            times = times * -back
                    wanted.append(tuple(times % prime if b == k else 0 for b in range(letters)))
                self.assertEqual(turner(dark, most), tuple(wanted), (prime, weights))
        self.assertEqual(len(weighed(3, 4, 1).rules), 6)

    def test_signed_sums(self):
        for prime in (2, 3, 97):
            for letters in range(1, 5):
                found = signed_sum(prime, letters)
                self.assertIsInstance(found, tuple)
                wanted = tuple(sign_of(word) % prime for word in plain.words(letters, letters))
                self.assertEqual(found, wanted)
        self.assertEqual(signed_sum(5, 1), (1,))
        self.assertEqual(signed_sum(5, 2), (0, 1, 4, 0))
        row = signed_sum(7, 3)
        self.assertEqual(sum(row), 3 + 3 * 6)

    def test_ring_sums(self):
        for prime, one, other, third in itertools.product((2, 5), (0, 1, -3), (0, 2, 11), (4, 5)):
            found = ring_sum(prime, one, other, third)
            self.assertIsInstance(found, tuple)
            told = {(0, 1, 2): one, (1, 2, 0): one, (2, 0, 1): one, (0, 2, 1): other, (2, 1, 0): other,
                    (1, 0, 2): other, (0, 0, 0): third, (1, 1, 1): third, (2, 2, 2): third}
            self.assertEqual(found, tuple(told.get(word, 0) % prime for word in plain.words(3, 3)))
        self.assertEqual(ring_sum(7, 1, -1, 0), signed_sum(7, 3))

    def test_turner_of_a_square_that_is_led(self):
        for seed in range(4):
            table = chance_table(5, 3, seed)
            square = joined(5, joined(5, plain.transposed(table), [[1, 2, 0], [0, 1, 3], [1, 0, 1]]), table)
            wanted = joined(5, square, plain.transposed(plain.undone(5, square)))
            self.assertEqual(turner(shadow(square_book(5, square)), 3), wanted)

    def test_wrong_inputs_in_sequence(self):
        for wrong in NUMBERS_NOT + (0, 1, 4, 98, 101):
            self.refuses("BadPrime", square_book, wrong, None)
            self.refuses("BadPrime", signed_sum, wrong, None)
            self.refuses("BadPrime", ring_sum, wrong, None, None, None)
        for wrong in TABLES_NOT:
            self.refuses("BadTable", square_book, 5, wrong)
        for wrong in NUMBERS_NOT + (0, 10, -1):
            self.refuses(number("letters"), signed_sum, 5, wrong)
        for letters in range(5, 10):
            self.refuses(MANY, signed_sum, 5, letters)
        for wrong in NUMBERS_NOT:
            self.refuses(number("one"), ring_sum, 5, wrong, wrong, wrong)
            self.refuses(number("other"), ring_sum, 5, -1, wrong, wrong)
            self.refuses(number("third"), ring_sum, 5, -1, 10 ** 30, wrong)
        self.assertEqual(exchange_book(3, 2), square_book(3, [[0, 1], [-1, 0]]))


if __name__ == "__main__":
    unittest.main()
