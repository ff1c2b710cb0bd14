import unittest

import plain
from asking import MANY, NUMBERS_NOT, Asks, number
from ruleshadows.words import beside, row_led, spot_of, word_at, words
from samples import Numbers, chance_row, chance_table


class Words(Asks, unittest.TestCase):
    def test_spots_are_the_places_among_all_words(self):
        for letters in range(1, 10):
            for length in range(0, 4):
                every = plain.words(letters, length)
                self.assertEqual(words(letters, length), every)
                for spot, word in enumerate(every):
                    self.assertEqual(spot_of(letters, word), spot)
                    self.assertEqual(word_at(letters, length, spot), word)

    def test_ends_of_the_limits(self):
        self.assertEqual(spot_of(4, ()), 0)
        self.assertEqual(word_at(9, 0, 0), ())
        self.assertEqual(words(3, 0), [()])
        self.assertEqual(words(1, 500), [(0,) * 500])
        self.assertEqual(spot_of(1, (0,) * 2000), 0)
        self.assertEqual(spot_of(2, (1,) * 9), 511)
        self.assertEqual(word_at(9, 3, 728), (8, 8, 8))
        self.assertEqual(word_at(1, 3000, 0), (0,) * 3000)
        self.assertEqual(len(words(3, 6)), 729)

    def test_wrong_letters_and_lengths(self):
        for wrong in NUMBERS_NOT + (0, 10, -1):
            self.refuses(number("letters"), spot_of, wrong, "x")
            self.refuses(number("letters"), word_at, wrong, -1, -1)
            self.refuses(number("letters"), words, wrong, -1)
        for wrong in NUMBERS_NOT + (-1,):
            self.refuses(number("length"), word_at, 2, wrong, -1)
            self.refuses(number("length"), words, 2, wrong)

    def test_what_is_no_word(self):
        for wrong in ([0, 1], (0, 2), (0, -1), (True, 0), (0, None), "01", None, 3, (1.0,), ((0,),), {0: 1}, [1] * 30):
            self.refuses("BadWord", spot_of, 2, wrong)
        self.refuses("BadWord", spot_of, 2, (0,) * 12 + (2,))

    def test_too_many(self):
        self.refuses(MANY, spot_of, 2, (0,) * 10)
        self.refuses(MANY, spot_of, 9, (0,) * 4)
        self.refuses(MANY, words, 2, 10)
        self.refuses(MANY, words, 9, 10 ** 30)
        self.refuses(MANY, word_at, 3, 7, 0)
        self.refuses(MANY, word_at, 3, 7, -1)
        self.refuses(MANY, word_at, 3, 7, "x")

    def test_wrong_spots(self):
        for wrong in NUMBERS_NOT + (-1, 8, 9):
            self.refuses(number("spot"), word_at, 2, 3, wrong)
        self.refuses(number("spot"), word_at, 2, 0, 1)
        self.refuses(number("spot"), word_at, 1, 5, 1)


class Rows(Asks, unittest.TestCase):
    def test_beside(self):
        self.assertEqual(beside(5, [1, 2], (3, 4, -1)), (3, 4, 4, 1, 3, 3))
        self.assertEqual(beside(2, [1], [7]), (1,))
        self.assertEqual(beside(7, (0,), [3, 3]), (0, 0))
        for prime in (2, 3, 97):
            one, other = chance_row(6, prime, 1), chance_row(9, prime, 2)
            self.assertEqual(beside(prime, one, other), plain.beside(prime, one, other))
        self.assertEqual(len(beside(3, [1] * 8, [1] * 125)), 1000)
        self.assertEqual(len(beside(3, [1] * 1000, [2])), 1000)

    def test_beside_refuses(self):
        for wrong in NUMBERS_NOT + (0, 1, 4, 9, 91, 101, -3, 10 ** 9 + 7):
            self.refuses("BadPrime", beside, wrong, None, None)
        for wrong in (None, [], (), "12", [True], [1, None], [[1]], {0: 1}, 5, [1.0]):
            self.refuses("BadRow", beside, 3, wrong, None)
            self.refuses("BadRow", beside, 3, [1] * 2000, wrong)
        self.refuses(MANY, beside, 3, [1] * 1001, [1])
        self.refuses(MANY, beside, 3, [0] * 11, (0,) * 91)

    def test_row_led(self):
        self.assertEqual(row_led(3, 2, 0, [4], [[1, 1], [0, 1]]), (1,))
        self.assertEqual(row_led(3, 2, 1, [1, 2], [[1, 1], [0, 1]]), (1, 0))
        self.assertEqual(row_led(5, 2, 2, [0, 1, 0, 0], [[1, 2], [0, 3]]), (0, 3, 0, 1))
        self.assertEqual(row_led(5, 1, 7, [2], [[3]]), (2 * 3 ** 7 % 5,))
        self.assertEqual(row_led(5, 1, 2000, [1], [[-1]]), (1,))
        for prime, letters, length in ((2, 2, 4), (3, 2, 3), (97, 3, 2), (5, 3, 3), (7, 4, 2)):
            row = chance_row(letters ** length, prime, length)
            table = [Numbers(k).row(letters, 2 * prime) for k in range(letters)]
            self.assertEqual(row_led(prime, letters, length, row, table), plain.led(prime, letters, length, row, table))

    def test_led_twice_is_led_by_both(self):
        one, other = chance_table(7, 3, 1), chance_table(7, 3, 2)
        both = [row_led(7, 3, 1, row, other) for row in one]
        row = chance_row(27, 7, 3)
        self.assertEqual(row_led(7, 3, 3, row_led(7, 3, 3, row, one), other), row_led(7, 3, 3, row, both))

    def test_row_led_refuses_in_sequence(self):
        for wrong in NUMBERS_NOT + (1, 98):
            self.refuses("BadPrime", row_led, wrong, 0, -1, None, None)
        for wrong in NUMBERS_NOT + (0, 10):
            self.refuses(number("letters"), row_led, 3, wrong, -1, None, None)
        for wrong in NUMBERS_NOT + (-1,):
            self.refuses(number("length"), row_led, 3, 2, wrong, None, None)
        self.refuses(MANY, row_led, 3, 2, 10, None, None)
        for wrong in (None, [1] * 3, [1] * 5, [1, 2, 3, True], "1234", [[1, 2], [3, 4]]):
            self.refuses("BadRow", row_led, 3, 2, 2, wrong, None)
        for wrong in (None, [], [[1, 0]], [[1, 0], [0]], [[1, 0], [0, 1], [0, 0]], [[1, 0], [0, True]], [1, 2], "ab"):
            self.refuses("BadTable", row_led, 3, 2, 2, [1, 0, 0, 0], wrong)


if __name__ == "__main__":
    unittest.main()
