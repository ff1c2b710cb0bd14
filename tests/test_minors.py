import unittest

import plain
from asking import MANY, NO_BOOK, NUMBERS_NOT, Asks, number
from cellsamples import few_twos, plainly_led
from restsamples import rest_of, rests_of, unit_of
from ruleshadows.books import exchange_book, free_book, minus_book, shut_book, weighed_book
from ruleshadows.formfamilies import ring_sum
from ruleshadows.keeping import beside_led, keeping_book, plain_cells
from ruleshadows.keepsplits import keeping_split, plain_number
from ruleshadows.minors import common_minors, determinant, rest_minors
from ruleshadows.places import common_room
from ruleshadows.rests import rest, rest_words
from ruleshadows.sums import rules_of_sum
from samples import bent_book, chance_book, told, told_book

BOOKS_NOT = (None, 0, "x", [free_book(2, 1)], (2, 1, ()))


def lengths(one, other):
    return range({1: 5, 2: 5, 3: 4, 4: 4, 6: 3}[one.letters * other.letters])


def pair_word(letters, word, head):
    """The word of the pairs of letters of two words."""
    return tuple(a * letters + c for a, c in zip(word, head))


def commons_of(book, many):
    return plain.commons(book.prime, book.letters, book.rules, many)


def plain_common_minors(one, other, many):
    """By their own words, by full rows."""
    pairs = one.letters * other.letters
    keeping = keeping_book(one, other)
    found = []
    for row in commons_of(one, many):
        line = []
        for ahead in commons_of(other, many):
            head = plain.words(other.letters, many)[plain.first(ahead)]
            told_words = {pair_word(other.letters, word, head): x
                          for x, word in zip(row, plain.words(one.letters, many))}
            line.append(rest_of(keeping, many, [told_words.get(word, 0) for word in plain.words(pairs, many)]))
        found.append(tuple(line))
    return tuple(found)


def is_square_of_rows(value, size):
    return isinstance(value, tuple) and all(
        isinstance(line, tuple) and all(isinstance(row, tuple) and len(row) == size for row in line) for line in value)


class Minors(Asks, unittest.TestCase):
    def test_rest_minors(self):
        for one, other in few_twos():
            keeping, cells = keeping_book(one, other), plain_cells(one, other)
            for many in lengths(one, other):
                found = rest_minors(one, other, many)
                self.assertTrue(is_square_of_rows(found, keeping.letters ** many))
                wanted = [beside_led(one, other, keeping, 1, cells, many, unit_of(one.letters, word))
                          for word in rest_words(one, many)]
                self.assertEqual(found, tuple(tuple(parts) for parts in wanted), (told(one), told(other), many))
                if keeping.letters ** many < 20:
                    wanted = [tuple(plainly_led(one, other, keeping, 1, cells, many, unit_of(one.letters, word)))
                              for word in rests_of(one, many)]
                    self.assertEqual(found, tuple(wanted))

    def test_common_minors_by_full_rows(self):
        some = 0
        for one, other in few_twos():
            for many in lengths(one, other):
                if (one.letters * other.letters) ** many > 70:
                    continue
                found = common_minors(one, other, many)
                self.assertTrue(is_square_of_rows(found, (one.letters * other.letters) ** many))
                self.assertEqual(found, plain_common_minors(one, other, many), (told(one), told(other), many))
                some += any(any(row) for line in found for row in line)
        self.assertGreater(some, 40)

    def test_heart_common_rows_are_led_to_common_rows_alone(self):
        for one, other in few_twos():
            keeping = keeping_book(one, other)
            for many in lengths(one, other):
                if keeping.letters ** many > 70:
                    continue
                minors, rows = common_minors(one, other, many), common_room(other, many)
                for i, row in enumerate(common_room(one, many)):
                    for at, head in enumerate(plain.words(other.letters, many)):
                        # The sum over the words of one, beside this word of other.
                        told_words = {pair_word(other.letters, word, head): x
                                      for x, word in zip(row, plain.words(one.letters, many))}
                        made = rest(keeping, many, [told_words.get(word, 0)
                                                    for word in plain.words(keeping.letters, many)])
                        wanted = plain.summed(one.prime, minors[i], [common[at] for common in rows],
                                              keeping.letters ** many)
                        self.assertEqual(made, wanted, (told(one), told(other), many))

    def test_heart_minors_split_into_minors(self):
        some = 0
        for one, other in few_twos():
            for middle in (one, other, free_book(one.prime, 1), shut_book(one.prime, 2)):
                for many in range(3):
                    pairs = max(one.letters * other.letters, one.letters * middle.letters,
                                middle.letters * other.letters)
                    if pairs > 6 or pairs ** many > 40:
                        continue
                    for minors in (rest_minors, common_minors):
                        some += self.check_split(minors, one, middle, other, many)
        self.assertGreater(some, 200)

    def check_split(self, minors, one, middle, other, many):
        first, second = minors(one, middle, many), minors(middle, other, many)
        width = (middle.letters * other.letters) ** many
        whole = minors(one, other, many)
        for i, line in enumerate(whole):
            for k, row in enumerate(line):
                found = keeping_split(one, middle, other, many, row)
                wanted = [[0] * width for _ in found]
                for j, ahead in enumerate(first[i]):
                    wanted = [[t + x * y for t, y in zip(old, second[j][k])] for old, x in zip(wanted, ahead)]
                self.assertEqual(found, tuple(tuple(t % one.prime for t in old) for old in wanted),
                                 (minors.__name__, told(one), told(middle), told(other), many))
        return len(whole)

    def test_determinants(self):
        some = {True: 0, False: 0}
        for book in (free_book(2, 1), shut_book(3, 1), exchange_book(3, 2), minus_book(5, 2), bent_book(3),
                     told_book(5, 2, [{(0, 1): 1, (1, 0): -3}]), told_book(7, 2, [{(0, 0): 1}]), exchange_book(2, 3),
                     chance_book(3, 2, 2, 5), rules_of_sum(5, 3, 3, ring_sum(5, 1, 2, 0)), chance_book(2, 3, 3, 2)):
            for many in range({1: 6, 2: 4, 3: 4}[book.letters]):
                found = determinant(book, many)
                rows = len(common_room(book, many))
                some[found is None] += 1
                if rows != 1:
                    self.assertIsNone(found)
                    continue
                self.assertEqual(found, common_minors(book, book, many)[0][0], told(book))
                self.assertEqual(plain_number(book, many, found), 1, told(book))
                if (book.letters ** 2) ** many > 100:
                    continue
                halves = keeping_split(book, book, book, many, found)
                wanted = tuple(tuple(x * y % book.prime for y in found) for x in found)
                self.assertEqual(halves, wanted, told(book))
        self.assertTrue(some[True] > 10 and some[False] > 15, some)

    def test_examples_by_hand(self):
        for prime in (2, 3, 97):
            book = exchange_book(prime, 2)
            row = [0] * 16
            row[3], row[2 * 4 + 1] = 1, -1
            self.assertEqual(determinant(book, 2), rest(keeping_book(book, book), 2, row))
            self.assertEqual(determinant(book, 0), (1,))
            self.assertIsNone(determinant(book, 1))
            self.assertIsNone(determinant(book, 3))
        self.assertEqual(determinant(shut_book(5, 1), 1), (1,))
        self.assertEqual(determinant(shut_book(5, 1), 7), (1,))
        self.assertIsNone(determinant(free_book(5, 1), 2))
        self.assertEqual(rest_minors(free_book(5, 1), free_book(5, 1), 3), (((1,),),))
        self.assertEqual(rest_minors(free_book(5, 1), shut_book(5, 1), 3), ((),))
        self.assertEqual(rest_minors(shut_book(5, 1), free_book(5, 1), 3), ())
        self.assertEqual(common_minors(shut_book(5, 1), free_book(5, 1), 3), ((),))
        self.assertEqual(common_minors(exchange_book(5, 1), exchange_book(5, 2), 1), (((1, 0), (0, 1)),))
        # Letters exchanged with weight 3: 10 less 3 times 01, which is 01 less a third of 10.
        book = weighed_book(7, [[0, 0], [3, 0]])
        self.assertEqual(book.rules, ((0, 1, 2, 0),))
        row = [0] * 16
        row[3], row[2 * 4 + 1] = 1, 2
        self.assertEqual(determinant(book, 2), rest(keeping_book(book, book), 2, row))

    def test_greater_minors(self):
        ring = rules_of_sum(5, 3, 3, ring_sum(5, 1, 2, 0))
        found = determinant(ring, 3)
        self.assertEqual((len(found), plain_number(ring, 3, found)), (729, 1))
        self.assertEqual(len(rest_minors(free_book(2, 9), free_book(2, 1), 3)), 729)
        self.assertEqual(common_minors(exchange_book(3, 9), shut_book(3, 1), 2)[0][0][1], 1)

    def test_wrong_inputs_in_sequence(self):
        one = exchange_book(3, 2)
        for function in (rest_minors, common_minors):
            for wrong in BOOKS_NOT:
                self.refuses(NO_BOOK, function, wrong, None, None)
                self.refuses(NO_BOOK, function, one, wrong, None)
            self.refuses(("BadBook", "prime"), function, free_book(3, 9), free_book(2, 9), None)
            self.refuses(number("letters"), function, free_book(3, 5), free_book(3, 2), None)
            for wrong in NUMBERS_NOT + (-1,):
                self.refuses(number("many"), function, one, one, wrong)
            self.refuses(MANY, function, one, one, 5)
            self.refuses(MANY, function, one, free_book(3, 1), 10)
        for wrong in BOOKS_NOT:
            self.refuses(NO_BOOK, determinant, wrong, None)
        for letters in range(4, 10):
            self.refuses(number("letters"), determinant, free_book(3, letters), None)
        for wrong in NUMBERS_NOT + (-1,):
            self.refuses(number("many"), determinant, one, wrong)
        self.refuses(MANY, determinant, one, 5)
        self.refuses(MANY, determinant, exchange_book(3, 3), 4)


if __name__ == "__main__":
    unittest.main()
