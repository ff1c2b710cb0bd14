import unittest

import plain
from asking import MANY, NO_BOOK, NUMBERS_NOT, Asks, number
from ruleshadows.books import (
    book_led, exchange_book, free_book, minus_book, read_back, shut_book, weighed_book)
from ruleshadows.ladders import first_lost, fits, letters_off, lost, rung_size, step_rows
from ruleshadows.places import at_place, at_places, common_at, common_room
from ruleshadows.rests import count, nothing_room, rest_words
from ruleshadows.shadows import shadow
from samples import (
    bent_book, chance_book, chance_table, few_books, heart_book, longest, named_books, sided_books, small_books,
    told, told_book)


def all_two_letter_books(prime, many):
    """Some books of two letters with so many rules, by their tidy lists."""
    found = [chance_book(prime, 2, many, seed, thin) for seed in range(30) for thin in (1, 2)]
    found += [told_book(prime, 2, [{(0, 0): 1}, {(1, 0): 1, (1, 1): k}]) for k in range(prime)]
    found += [told_book(prime, 2, [{(0, 0): 1, (1, 1): k}, {(0, 1): 1, (1, 0): m}])
              for k in range(prime) for m in range(prime)]
    return [book for book in found if len(book.rules) == many]


class Rungs(Asks, unittest.TestCase):
    def test_examples_by_hand(self):
        book = exchange_book(3, 2)
        self.assertEqual(rest_words(book, 2), [(0, 0), (1, 0), (1, 1)])
        self.assertEqual(step_rows(book, 2, 1, 0), ((1, 0, 0), (0, 1, 0), (0, 1, 0), (0, 0, 1)))
        self.assertEqual(letters_off(book, 2, 0), (((0, 1), (2, 0)),))
        self.assertEqual(step_rows(book, 2, 2, 0), ((0, 1, 2, 0),))
        self.assertEqual(letters_off(book, 1, 0), (((1,), (0,)), ((0,), (1,))))
        self.assertEqual(letters_off(book, 1, 1), (((1,), (0,)), ((0,), (1,))))
        self.assertEqual(letters_off(free_book(3, 2), 2, 0), ())

    def test_sizes(self):
        for book in few_books():
            for length in range(longest(book) + 1):
                for step in range(length + 1):
                    size = len(rest_words(book, length - step)) * len(common_room(book, step))
                    self.assertEqual(rung_size(book, length, step), size, told(book))

    def test_letters_taken_off_make_the_rows_again(self):
        for book in small_books():
            for step in range(1, longest(book) + 1):
                shorter, rows = common_room(book, step - 1), common_room(book, step)
                size = book.letters ** step
                for side in (0, 1):
                    found = letters_off(book, step, side)
                    self.assertEqual(len(found), len(rows))
                    for row, off in zip(rows, found):
                        self.assertEqual(len(off), book.letters)
                        total = (0,) * size
                        for letter, numbers in zip(plain.identity(book.letters), off):
                            self.assertEqual(len(numbers), len(shorter))
                            self.assertTrue(all(0 <= x < book.prime for x in numbers))
                            left = plain.summed(book.prime, shorter, numbers, book.letters ** (step - 1))
                            ways = (letter, left) if side == 0 else (left, letter)
                            total = tuple((x + y) % book.prime for x, y in zip(total, plain.beside(book.prime, *ways)))
                        self.assertEqual(total, row, (told(book), step, side))

    def test_steps_by_the_plain_way(self):
        # A pair is the rest word beside the row (side 0) or behind it (side 1): a step puts letters to their rests.
        for book in few_books():
            length, prime = longest(book), book.prime
            for step in range(1, length + 1):
                size = book.letters ** (length - step + 1)
                words = plain.identity(size // book.letters)
                kept = [words[plain.spot(book.letters, word)] for word in rest_words(book, length - step)]
                more = [plain.identity(size)[plain.spot(book.letters, word)]
                        for word in rest_words(book, length - step + 1)]
                nothing = nothing_room(book, length - step + 1)
                for side in (0, 1):
                    rows = step_rows(book, length, step, side)
                    pairs = [(word, row) for word in kept for row in common_room(book, step)]
                    ends = [(word, row) for word in more for row in common_room(book, step - 1)]
                    self.assertEqual((len(rows), len(pairs)), (rung_size(book, length, step),) * 2)
                    for (word, row), numbers in zip(pairs, rows):
                        self.assertEqual(len(numbers), len(ends))
                        self.assertTrue(all(0 <= x < prime for x in numbers))
                        full = [plain.beside(prime, *(end if side == 0 else end[::-1])) for end in ends]
                        total = plain.summed(prime, full, numbers, book.letters ** length)
                        start = plain.beside(prime, *((word, row) if side == 0 else (row, word)))
                        self.assertEqual(total, self.part_rest(book, nothing, size, start, side), (told(book), step))

    def part_rest(self, book, nothing, size, row, side):
        """The row with the first (side 0) or last letters, so many that they have size words, put to their rest."""
        other = len(row) // size
        total = [0] * len(row)
        for k in range(other):
            at = [(x * other + k) if side == 0 else (k * size + x) for x in range(size)]
            for place, value in zip(at, plain.left(book.prime, nothing, [row[place] for place in at])):
                total[place] = value
        return tuple(total)

    def test_two_steps_lead_to_0(self):
        for book in few_books():
            for length in range(2, longest(book) + 1):
                for side in (0, 1):
                    for step in range(2, length + 1):
                        first, second = step_rows(book, length, step, side), step_rows(book, length, step - 1, side)
                        for row in first:
                            wide = rung_size(book, length, step - 2)
                            self.assertFalse(any(plain.summed(book.prime, second, row, wide)), told(book))

    def test_long_words_of_one_letter(self):
        self.assertEqual(step_rows(shut_book(3, 1), 200, 200, 0), ((1,),))
        self.assertEqual(step_rows(shut_book(3, 1), 200, 100, 0), ())
        self.assertEqual(lost(shut_book(3, 1), 120, 1), (0,) * 121)
        self.assertEqual(lost(free_book(3, 1), 120, 0), (0,) * 121)
        self.assertEqual(rung_size(free_book(3, 1), 500, 1), 1)

    def test_wrong_inputs_in_sequence(self):
        book = exchange_book(3, 2)
        for wrong in (None, 2, "b", [book]):
            self.refuses(NO_BOOK, rung_size, wrong, -1, -1)
            self.refuses(NO_BOOK, letters_off, wrong, -1, 2)
            self.refuses(NO_BOOK, step_rows, wrong, -1, -1, 2)
            self.refuses(NO_BOOK, lost, wrong, -1, 2)
            self.refuses(NO_BOOK, first_lost, wrong, -1)
            self.refuses(NO_BOOK, fits, wrong, -1)
        for wrong in NUMBERS_NOT + (-1,):
            self.refuses(number("length"), rung_size, book, wrong, -1)
            self.refuses(number("length"), step_rows, book, wrong, -1, 2)
            self.refuses(number("length"), lost, book, wrong, 2)
            self.refuses(number("most"), first_lost, book, wrong)
            self.refuses(number("most"), fits, book, wrong)
            self.refuses(number("step"), rung_size, book, 3, wrong)
            self.refuses(number("step"), rung_size, book, 12, wrong)
            self.refuses(number("step"), letters_off, book, wrong, 2)
            self.refuses(number("step"), step_rows, book, 3, wrong, 2)
        self.refuses(number("step"), rung_size, book, 3, 4)
        self.refuses(number("step"), letters_off, book, 0, 2)
        for length, step in ((3, 0), (3, 4), (0, 0), (0, 1), (20, 21), (20, 0)):
            self.refuses(number("step"), step_rows, book, length, step, 2)
        for wrong in NUMBERS_NOT + (-1, 2):
            self.refuses(number("side"), letters_off, book, 12, wrong)
            self.refuses(number("side"), step_rows, book, 12, 2, wrong)
            self.refuses(number("side"), lost, book, 12, wrong)
        self.refuses(MANY, rung_size, book, 10, 3)
        self.refuses(MANY, letters_off, book, 10, 0)
        self.refuses(MANY, step_rows, book, 10, 3, 1)
        self.refuses(MANY, lost, book, 10, 1)
        self.refuses(MANY, first_lost, book, 10)
        self.refuses(MANY, fits, free_book(2, 9), 10 ** 9)


class Losing(unittest.TestCase):
    def test_by_the_ranks_of_the_steps(self):
        for book in few_books():
            for length in range(longest(book) + 1):
                for side in (0, 1):
                    ranks = [0] + [plain.rank(book.prime, step_rows(book, length, step, side))
                                   for step in range(1, length + 1)] + [0]
                    sizes = [rung_size(book, length, step) for step in range(length + 1)]
                    found = tuple(sizes[k] - ranks[k] - ranks[k + 1] for k in range(length + 1))
                    self.assertEqual(lost(book, length, side), found, told(book))

    def test_facts(self):
        for book in small_books():
            dark, back = shadow(book), read_back(book)
            other = book_led(book, chance_table(book.prime, book.letters, 4))
            for length in range(longest(book) + 1):
                ahead, behind = lost(book, length, 0), lost(book, length, 1)
                if length == 0:
                    self.assertEqual((ahead, behind), ((1,), (1,)))
                else:
                    for numbers in (ahead, behind):
                        self.assertEqual(numbers[:2] + numbers[-2:], (0, 0, 0, 0), told(book))
                self.assertEqual((lost(back, length, 1), lost(back, length, 0)), (ahead, behind), told(book))
                self.assertEqual((lost(other, length, 0), lost(other, length, 1)), (ahead, behind), told(book))
                self.assertEqual(lost(dark, length, 0), behind[::-1], told(book))
                self.assertEqual(lost(dark, length, 1), ahead[::-1], told(book))
                signed = sum((-1) ** k * count(book, length - k) * count(dark, k) for k in range(length + 1))
                for numbers in (ahead, behind):
                    self.assertEqual(sum((-1) ** k * x for k, x in enumerate(numbers)), signed, told(book))

    def test_heart_three_rooms(self):
        for book in few_books() + [bent_book(3), chance_book(2, 2, 2, 12)] + sided_books()[:1]:
            length, prime = longest(book), book.prime
            if book in sided_books():
                length = 5
            for i in range(2, length - 1):
                q = length - 1 - i
                ahead = at_places(book, length, list(range(q)))
                here = at_place(book, length, q)
                behind = common_at(book, length, list(range(q + 1, length - 1)))
                size = book.letters ** length
                both = plain.common(prime, ahead + here, behind, size)
                apart = plain.common(prime, ahead, behind, size) + plain.common(prime, here, behind, size)
                self.assertEqual(lost(book, length, 0)[i], len(both) - plain.rank(prime, apart), told(book))

    def test_facts_of_four_letters_in_length_4(self):
        for seed, many in enumerate((2, 4, 6, 7, 8, 9, 10, 12, 14)):
            book = chance_book((2, 3, 5)[seed % 3], 4, many, seed, thin=1 + seed % 2)
            dark, numbers = shadow(book), lost(book, 4, 0)
            self.assertEqual((numbers[:2], numbers[3:]), ((0, 0), (0, 0)), told(book))
            self.assertEqual(lost(book, 4, 1), numbers, told(book))
            self.assertEqual((lost(dark, 4, 0), lost(dark, 4, 1)), (numbers, numbers), told(book))
            self.assertEqual(first_lost(book, 4), (4, 2) if numbers[2] else None, told(book))
            signed = sum((-1) ** k * count(book, 4 - k) * count(dark, k) for k in range(5))
            self.assertEqual(numbers[2], signed, told(book))

    def test_sides_that_lose_other_numbers(self):
        known = [((0, 0, 1, 0, 0, 0), (0, 0, 2, 1, 0, 0)), ((0, 0, 7, 1, 0, 0), (0, 0, 8, 2, 0, 0))]
        for book, (one, other) in zip(sided_books(), known):
            dark, back = shadow(book), read_back(book)
            self.assertEqual((lost(book, 5, 0), lost(book, 5, 1)), (one, other))
            self.assertEqual((lost(dark, 5, 0), lost(dark, 5, 1)), (other[::-1], one[::-1]))
            self.assertEqual((lost(back, 5, 0), lost(back, 5, 1)), (other, one))
            self.assertEqual(lost(book, 4, 0), lost(book, 4, 1))

    def test_first_lost_by_its_own_words(self):
        for book in small_books():
            most = longest(book)
            lengths = [(length, step) for length in range(1, most + 1)
                       for step, x in enumerate(lost(book, length, 0)) if x]
            for bound in range(most + 1):
                here = [pair for pair in lengths if pair[0] <= bound]
                self.assertEqual(first_lost(book, bound), here[0] if here else None, told(book))
                self.assertIs(fits(book, bound), not here)
            other = book_led(book, chance_table(book.prime, book.letters, 6))
            for like in (shadow(book), read_back(book), other):
                self.assertIs(fits(like, most), fits(book, most), told(book))
            if lengths:
                length = lengths[0][0]
                self.assertEqual(lost(book, length, 0), lost(book, length, 1), told(book))

    def test_books_that_fit(self):
        for prime in (2, 3, 5, 97):
            for letters, most in ((1, 40), (2, 7), (3, 5), (4, 4), (5, 4), (9, 3)):
                for book in named_books(prime, letters):
                    self.assertIs(fits(book, most), True, told(book))
        self.assertIs(fits(weighed_book(7, [[0, 0, 0], [3, 0, 0], [5, 6, 1]]), 6), True)
        self.assertIsNone(first_lost(exchange_book(2, 2), 9))
        self.assertIsNone(first_lost(shut_book(2, 1), 10 ** 12))
        self.assertIs(fits(chance_book(3, 4, 7, 5), 3), True)

    def test_books_that_lose(self):
        self.assertEqual(lost(bent_book(5), 4, 0), (0, 0, 1, 0, 0))
        self.assertEqual(first_lost(bent_book(5), 4), (4, 2))
        self.assertIsNone(first_lost(bent_book(5), 3))
        for prime, q, r in ((2, 1, 1), (3, 2, 1), (7, 3, 5), (97, 50, 96)):
            book = heart_book(prime, q, r)
            self.assertEqual(lost(book, 5, 0), (0, 0, 1, 1, 0, 0))
            self.assertEqual(lost(book, 5, 1), (0, 0, 1, 1, 0, 0))
            self.assertEqual(first_lost(book, 5), (5, 2))
            self.assertEqual(first_lost(shadow(book), 5), (5, 2))
            self.assertIs(fits(book, 4), True)

    def test_fact_of_two_letters(self):
        for prime in (2, 3, 5):
            for many in range(5):
                for book in all_two_letter_books(prime, many):
                    third = count(book, 3)
                    self.assertIs(fits(book, 6), many != 2 or third == 2, told(book))
                    if many == 2 and third != 2:
                        self.assertIn(third, (0, 1))
                        for side in (0, 1):
                            self.assertEqual(lost(book, 4, side)[2], 4 if third == 0 else 1, told(book))

    def test_minus_is_exchange_read_as_a_shadow(self):
        self.assertEqual([rung_size(minus_book(3, 3), 3, k) for k in range(4)], [1, 9, 18, 10])


if __name__ == "__main__":
    unittest.main()
