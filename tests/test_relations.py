import unittest

from asking import MANY, NO_BOOK, NUMBERS_NOT, Asks, number
from ruleshadows.books import book_led, exchange_book, free_book, minus_book, read_back, shut_book
from ruleshadows.ladders import first_lost, fits, lost
from ruleshadows.leasts import least_ladder
from ruleshadows.relations import first_gap, relation_numbers, relations_straight
from ruleshadows.rests import count
from ruleshadows.shadows import shadow
from ruleshadows.undoing import back_counts
from samples import bent_book, chance_book, chance_table, few_books, heart_book, longest, small_books, told


class Relations(Asks, unittest.TestCase):
    def test_numbers_of_the_generators(self):
        for book in few_books():
            for most in range(longest(book) + 1):
                for side in (0, 1):
                    found = relation_numbers(book, most, side)
                    self.assertIsInstance(found, tuple)
                    self.assertTrue(all(isinstance(row, tuple) and len(row) == most + 1 for row in found))
                    ladder = least_ladder(book, most, side)
                    for step, floor in enumerate(ladder):
                        for length in range(most + 1):
                            self.assertEqual(found[step][length], [start for start, _ in floor].count(length))

    def test_both_sides_and_other_books(self):
        for book in small_books():
            most = longest(book)
            numbers = relation_numbers(book, most, 0)
            self.assertEqual(relation_numbers(book, most, 1), numbers, told(book))
            self.assertEqual(relation_numbers(read_back(book), most, 0), numbers, told(book))
            other = book_led(book, chance_table(book.prime, book.letters, 2))
            self.assertEqual(relation_numbers(other, most, 0), numbers, told(book))

    def test_heart_the_diagonal_is_the_shadow(self):
        for book in small_books():
            most = longest(book)
            numbers = relation_numbers(book, most, 0)
            for step in range(most + 1):
                self.assertEqual(numbers[step][step], count(shadow(book), step), told(book))
                self.assertFalse(any(numbers[step][:step]))
            back = back_counts(book, most)
            for n in range(most + 1):
                total = sum((-1) ** s * numbers[s][k] * count(book, n - k)
                            for s in range(most + 1) for k in range(n + 1))
                self.assertEqual(total, int(n == 0), told(book))
                self.assertEqual(back[n], (-1) ** n * sum((-1) ** s * numbers[s][n] for s in range(most + 1)))

    def test_first_gap_by_its_own_words(self):
        for book in small_books():
            most = longest(book)
            numbers = relation_numbers(book, most, 1)
            pairs = [(length, step) for length in range(most + 1) for step in range(most + 1)
                     if step != length and numbers[step][length]]
            for bound in range(most + 1):
                here = [pair for pair in pairs if pair[0] <= bound]
                self.assertEqual(first_gap(book, bound), here[0] if here else None, told(book))
                self.assertIs(relations_straight(book, bound), not here)

    def test_heart_fitting_books_have_straight_relations(self):
        found = set()
        for book in small_books() + [chance_book(3, 2, 2, seed) for seed in range(12)]:
            most = longest(book)
            pair, there = first_lost(book, most), first_gap(book, most)
            self.assertIs(relations_straight(book, most), fits(book, most), told(book))
            self.assertEqual(there, pair and (pair[0], pair[1] + 1), told(book))
            found.add(pair)
            if pair:
                length = pair[0]
                numbers, dark = relation_numbers(book, length, 0), relation_numbers(shadow(book), length, 0)
                for side in (0, 1):
                    losses = lost(book, length, side)
                    for step in range(1, length):
                        self.assertEqual(numbers[step][length], losses[step - 1], told(book))
                for step in range(3, length):
                    self.assertEqual(numbers[step][length], dark[length + 2 - step][length], told(book))
        self.assertIn(None, found)
        self.assertIn((4, 2), found)

    def test_known_gaps(self):
        self.assertEqual(first_gap(bent_book(3), 5), (4, 3))
        self.assertIsNone(first_gap(bent_book(3), 3))
        for prime in (2, 5):
            book = heart_book(prime, 1, prime - 1)
            self.assertEqual(first_gap(book, 5), (5, 3))
            numbers = relation_numbers(book, 5, 1)
            self.assertEqual([numbers[s][5] for s in range(6)], [0, 0, 0, 1, 1, 14])
        for book in (exchange_book(5, 2), minus_book(5, 2), free_book(2, 2), shut_book(2, 2)):
            self.assertIs(relations_straight(book, 9), True)
        self.assertIs(relations_straight(shut_book(2, 1), 10 ** 9), True)
        self.assertEqual(relation_numbers(exchange_book(2, 3), 3, 0), (
            (1, 0, 0, 0), (0, 3, 0, 0), (0, 0, 3, 0), (0, 0, 0, 1)))
        self.assertEqual(relation_numbers(exchange_book(2, 3), 0, 0), ((1,),))

    def test_wrong_inputs_in_sequence(self):
        book = exchange_book(3, 2)
        for wrong in (None, 0, "x", [book]):
            self.refuses(NO_BOOK, relation_numbers, wrong, -1, 2)
            self.refuses(NO_BOOK, first_gap, wrong, -1)
            self.refuses(NO_BOOK, relations_straight, wrong, -1)
        for wrong in NUMBERS_NOT + (-1,):
            self.refuses(number("most"), relation_numbers, book, wrong, 2)
            self.refuses(number("most"), first_gap, book, wrong)
            self.refuses(number("most"), relations_straight, book, wrong)
        for wrong in NUMBERS_NOT + (-1, 2):
            self.refuses(number("side"), relation_numbers, book, 10, wrong)
        self.refuses(MANY, relation_numbers, book, 10, 0)
        self.refuses(MANY, first_gap, book, 10)
        self.refuses(MANY, relations_straight, free_book(2, 9), 10 ** 9)


if __name__ == "__main__":
    unittest.main()
