import unittest

import plain
from asking import MANY, NO_BOOK, NUMBERS_NOT, Asks, number
from ruleshadows.books import Rules, exchange_book, free_book, minus_book, shut_book
from ruleshadows.leasts import least_ladder
from samples import bent_book, chance_book, few_books, heart_book, longest, told


class Judge:
    """Judges a least ladder by the words of the document, with rests worked out the plain way."""

    def __init__(self, test, book, most, side):
        self.test, self.book, self.most, self.side = test, book, most, side
        self.words = [plain.rest_words(book.prime, book.letters, book.rules, k) for k in range(most + 1)]
        self.rooms = [plain.nothing(book.prime, book.letters, book.rules, k) for k in range(most + 1)]

    def rest_of(self, word):
        """The rest of a word: a dict from rest words to numbers."""
        every = plain.words(self.book.letters, len(word))
        row = plain.left(self.book.prime, self.rooms[len(word)], plain.unit(len(every), every.index(word)))
        return {every[at]: number for at, number in enumerate(row) if number}

    def beside(self, word, total):
        made = {}
        for place, other, number in total:
            both = word + other if self.side == 0 else other + word
            for kept, times in self.rest_of(both).items():
                made[place, kept] = (made.get((place, kept), 0) + number * times) % self.book.prime
        return tuple((place, kept, made[place, kept]) for place, kept in sorted(made) if made[place, kept])

    def led(self, floor, total):
        made = {}
        for place, word, number in total:
            for other, kept, times in self.beside(word, floor[place][1]):
                made[other, kept] = (made.get((other, kept), 0) + number * times) % self.book.prime
        return tuple((place, kept, made[place, kept]) for place, kept in sorted(made) if made[place, kept])

    def basis(self, floor, length):
        return [((place, word, 1),) for place, (start, _) in enumerate(floor) if start <= length
                for word in self.words[length - start]]

    def rows(self, floor, length, totals):
        """Sums on a floor as full rows."""
        names = [total[0][:2] for total in self.basis(floor, length)]
        return [[{t[:2]: t[2] for t in total}.get(name, 0) for name in names] for total in totals]

    def check_form(self, ladder):
        test = self.test
        test.assertIsInstance(ladder, list)
        test.assertEqual(len(ladder), self.most + 1)
        test.assertEqual(ladder[0], ((0, ()),))
        for step in range(1, self.most + 1):
            test.assertIsInstance(ladder[step], tuple)
            lengths = [generator[0] for generator in ladder[step]]
            test.assertEqual(lengths, sorted(lengths))
            for generator in ladder[step]:
                test.assertIsInstance(generator, tuple)
                length, total = generator
                test.assertTrue(1 <= length <= self.most and step <= length)
                test.assertIsInstance(total, tuple)
                pairs = [triple[:2] for triple in total]
                test.assertEqual(pairs, sorted(set(pairs)))
                for place, word, times in total:
                    test.assertIn(word, self.words[length - ladder[step - 1][place][0]])
                    test.assertTrue(1 <= times < self.book.prime)
                    test.assertNotEqual(word, ())

    def check(self, ladder):
        test, prime = self.test, self.book.prime
        self.check_form(ladder)
        for step in range(2, self.most + 1):
            for _, total in ladder[step]:
                test.assertEqual(self.led(ladder[step - 1], total), ())
        for step in range(self.most):
            for length in range(1, self.most + 1):
                sums = self.basis(ladder[step], length)
                many = len(sums)
                if step:
                    below = [self.led(ladder[step], total) for total in sums]
                    many -= plain.rank(prime, self.rows(ladder[step - 1], length, below))
                reached = [self.led(ladder[step + 1], total) for total in self.basis(ladder[step + 1], length)]
                if step:
                    test.assertFalse(any(self.led(ladder[step], total) for total in reached))
                test.assertEqual(plain.rank(prime, self.rows(ladder[step], length, reached)), many)
        if self.most:
            for length in range(1, self.most + 1):
                last = [total for start, total in ladder[-1] if start == length]
                test.assertEqual(plain.rank(prime, self.rows(ladder[-2], length, last)), len(last))


class Ladders(Asks, unittest.TestCase):
    def test_judged_by_its_own_words(self):
        for book in few_books() + [bent_book(3), chance_book(2, 2, 2, 12)]:
            most = min(longest(book), 4)
            for side in (0, 1):
                with self.subTest(book=told(book), side=side):
                    Judge(self, book, most, side).check(least_ladder(book, most, side))

    def test_equal_for_equal_arguments(self):
        for book in few_books():
            again = Rules(book.prime, book.letters, [list(row) for row in book.rules][::-1])
            for side in (0, 1):
                self.assertEqual(least_ladder(book, 4, side), least_ladder(again, 4, side))

    def test_every_length_up_to_most(self):
        for book in (bent_book(5), heart_book(2, 1, 1)):
            for most in range(4 if book.letters == 3 else 6):
                for side in (0, 1):
                    Judge(self, book, most, side).check(least_ladder(book, most, side))

    def test_facts_of_the_first_floors(self):
        for book in few_books():
            for side in (0, 1):
                ladder = least_ladder(book, 3, side)
                letters = sorted(total for _, total in ladder[1])
                self.assertEqual([length for length, _ in ladder[1]], [1] * book.letters)
                self.assertEqual(plain.rank(book.prime, [
                    [{t[1]: t[2] for t in total}.get((a,), 0) for a in range(book.letters)] for total in letters
                ]), book.letters)
                self.assertEqual([length for length, _ in ladder[2]], [2] * len(book.rules))

    def test_known_ladders(self):
        self.assertEqual(least_ladder(exchange_book(3, 2), 0, 1), [((0, ()),)])
        self.assertEqual([len(floor) for floor in least_ladder(minus_book(3, 2), 5, 0)], [1, 2, 3, 4, 5, 6])
        self.assertEqual([len(floor) for floor in least_ladder(exchange_book(3, 3), 5, 1)], [1, 3, 3, 1, 0, 0])
        self.assertEqual([len(floor) for floor in least_ladder(free_book(3, 9), 3, 1)], [1, 9, 0, 0])
        self.assertEqual([len(floor) for floor in least_ladder(shut_book(3, 9), 3, 0)], [1, 9, 81, 729])
        self.assertEqual([len(floor) for floor in least_ladder(shut_book(3, 1), 30, 0)], [1] * 31)

    def test_wrong_inputs_in_sequence(self):
        book = exchange_book(3, 2)
        for wrong in (None, 0, "x", [book]):
            self.refuses(NO_BOOK, least_ladder, wrong, -1, 2)
        for wrong in NUMBERS_NOT + (-1,):
            self.refuses(number("most"), least_ladder, book, wrong, 2)
        for wrong in NUMBERS_NOT + (-1, 2):
            self.refuses(number("side"), least_ladder, book, 10, wrong)
        self.refuses(MANY, least_ladder, book, 10, 0)
        self.refuses(MANY, least_ladder, book, 10 ** 12, 1)


if __name__ == "__main__":
    unittest.main()
