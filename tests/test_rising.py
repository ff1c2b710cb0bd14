import unittest

import plain
from asking import MANY, NO_BOOK, NUMBERS_NOT, Asks, number
from formsamples import many_books, most_of, paired_shadows
from restsamples import dark_of, rest_of, rests_of, unit_of
from ruleshadows.books import Rules, exchange_book, free_book, minus_book, shut_book
from ruleshadows.ladders import fits, lost
from ruleshadows.rests import count, idle
from ruleshadows.rising import rising_lost, rising_map
from ruleshadows.shadows import shadow
from samples import bent_book, chance_book, few_books, heart_book, told, told_book

SHORT = {1: 4, 2: 3, 3: 2, 4: 1}


def numbers_at(book, length, row):
    """The numbers of a rest at the rest words."""
    every = plain.words(book.letters, length)
    return [row[every.index(word)] for word in rests_of(book, length)]


def plain_map(book, length, step):
    """The rows of the rising ladder, by full rows."""
    dark = Rules(book.prime, book.letters, dark_of(book))
    rows = []
    for word in rests_of(book, length):
        for other in rests_of(dark, step):
            total = [0] * (len(rests_of(book, length + 1)) * len(rests_of(dark, step + 1)))
            for a in range(book.letters):
                ahead = numbers_at(book, length + 1, rest_of(book, length + 1, unit_of(book.letters, word + (a,))))
                behind = numbers_at(dark, step + 1, rest_of(dark, step + 1, unit_of(book.letters, other + (a,))))
                total = [x + y for x, y in zip(total, [p * q for p in ahead for q in behind])]
            rows.append(tuple(number % book.prime for number in total))
    return tuple(rows)


def led(prime, row, rows):
    return plain.summed(prime, rows, row, len(rows[0]) if rows else 0)


class Rising(Asks, unittest.TestCase):
    def test_rows_by_full_rows(self):
        some = 0
        for book in many_books():
            for length in range(SHORT[book.letters] + 1):
                for step in range(SHORT[book.letters] + 1):
                    found = rising_map(book, length, step)
                    self.assertTrue(isinstance(found, tuple) and all(isinstance(row, tuple) for row in found))
                    self.assertEqual(found, plain_map(book, length, step), (told(book), length, step))
                    some += any(any(row) for row in found)
        self.assertGreater(some, 200)

    def test_lost_by_ranks(self):
        for book in many_books():
            for length in range(SHORT[book.letters] + 1):
                for step in range(SHORT[book.letters] + 1):
                    rows = rising_map(book, length, step)
                    wanted = len(rows) - (plain.rank(book.prime, rows) if rows else 0)
                    if length and step:
                        ahead = rising_map(book, length - 1, step - 1)
                        wanted -= plain.rank(book.prime, ahead) if ahead else 0
                    found = rising_lost(book, length, step)
                    self.assertIs(found.__class__, int)
                    self.assertEqual(found, wanted, (told(book), length, step))

    def test_heart_two_steps_are_nothing(self):
        some = 0
        for book in many_books():
            most = most_of(book) - 2
            for length in range(most + 1):
                for step in range(most + 1):
                    if count(book, length + 1) * count(shadow(book), step + 1) > 300:
                        continue
                    behind = rising_map(book, length + 1, step + 1)
                    for row in rising_map(book, length, step):
                        some += any(row)
                        self.assertFalse(behind and any(led(book.prime, row, behind)), (told(book), length, step))
        self.assertGreater(some, 200)

    def test_heart_at_length_0_idle_rows_of_the_shadow(self):
        some = 0
        for book in many_books():
            for step in range(most_of(book)):
                wanted = len(idle(shadow(book), step, 1))
                some += wanted
                self.assertEqual(rising_lost(book, 0, step), wanted, (told(book), step))
        self.assertGreater(some, 40)

    def test_heart_with_a_paired_shadow_the_ladder_reads_the_same_from_both_ends(self):
        for book, top in paired_shadows():
            most = most_of(book)
            for step in range(top + 1):
                for length in range(most - top + step):
                    if length > most - 1:
                        continue
                    # Rests of this length beside common rows of top - step: a rung of the length of both.
                    wanted = lost(book, length + top - step, 0)[top - step]
                    self.assertEqual(rising_lost(book, length, step), wanted, (told(book), length, step))

    def test_heart_a_book_that_fits_loses_but_one(self):
        some = 0
        for book, top in paired_shadows():
            if not fits(book, most_of(book)):
                # What the ladder loses at length 4 and step 2: two rests beside common rows of two letters.
                self.assertEqual(rising_lost(book, 2, 1), 2)
                continue
            for length in range(most_of(book)):
                for step in range(min(top + 2, most_of(book))):
                    wanted = int((length, step) == (0, top))
                    some += wanted
                    if top - step + length <= most_of(book):
                        self.assertEqual(rising_lost(book, length, step), wanted, (told(book), length, step))
        self.assertGreater(some, 10)

    def test_by_hand(self):
        # One letter without rules: the shadow has the rests () and a. 1 goes to a beside a, what stands beside a to 0.
        book = free_book(5, 1)
        self.assertEqual(rising_map(book, 0, 0), ((1,),))
        self.assertEqual(rising_map(book, 3, 0), ((1,),))
        self.assertEqual(rising_map(book, 3, 1), ((),))
        self.assertEqual(rising_map(book, 3, 2), ())
        self.assertEqual([rising_lost(book, 0, step) for step in range(4)], [0, 1, 0, 0])
        self.assertEqual([rising_lost(book, 2, step) for step in range(4)], [0, 0, 0, 0])
        self.assertEqual(rising_map(free_book(2, 2), 0, 0), ((1, 0, 0, 1),))
        # ab is ba; in the shadow aa, bb are nothing, ba is less ab, and ba is its rest word.
        self.assertEqual(rising_map(exchange_book(5, 2), 0, 1), ((0, 4), (1, 0)))
        self.assertEqual(rising_lost(minus_book(3, 2), 0, 0), 0)
        self.assertEqual(rising_map(shut_book(3, 1), 1, 4), ((),))

    def test_books_that_do_not_fit_lose_more(self):
        lose = 0
        for book in (bent_book(2), bent_book(3), heart_book(2, 1, 1), chance_book(3, 2, 2, 5)):
            most = most_of(book) - 1
            lose += sum(rising_lost(book, length, step) for length in range(1, most) for step in range(most))
        self.assertGreater(lose, 0)
        for book in few_books():
            self.assertGreaterEqual(rising_lost(book, 1, 1), 0)

    def test_wrong_inputs_in_sequence(self):
        for function in (rising_map, rising_lost):
            for wrong in (None, 0, "x", [free_book(2, 1)]):
                self.refuses(NO_BOOK, function, wrong, None, None)
            for wrong in NUMBERS_NOT + (-1,):
                self.refuses(number("length"), function, free_book(2, 2), wrong, wrong)
                self.refuses(number("step"), function, free_book(2, 2), 99, wrong)
            self.refuses(MANY, function, free_book(2, 2), 9, 0)
            self.refuses(MANY, function, shut_book(2, 2), 0, 9)
            self.refuses(MANY, function, free_book(2, 9), 3, 0)
            # Too long, though there are no pairs at all.
            self.refuses(MANY, function, shut_book(2, 2), 9, 0)
            self.refuses(MANY, function, free_book(2, 2), 0, 9)
            self.assertFalse(function(shut_book(2, 2), 8, 0))
            self.assertFalse(function(free_book(2, 2), 0, 8))
            # More than 1000 pairs of two letters each, none of three.
            wide = chance_book(97, 9, 40, 1)
            self.assertEqual([count(wide, 2), count(shadow(wide), 2), count(shadow(wide), 3)], [41, 40, 0])
            self.refuses(MANY, function, wide, 2, 2)
            # Four letters, each of which two others follow: 16 words of length 3, 32 of 4, in both books.
            ring = told_book(2, 4, [{(a, (a + k) % 4): 1} for a in range(4) for k in (0, 1)])
            self.assertEqual((count(ring, 4), count(shadow(ring), 4)), (32, 32))
            self.refuses(MANY, function, ring, 3, 3)
            function(ring, 3, 2)
            function(ring, 2, 3)
            self.refuses(MANY, function, free_book(2, 2), 8, 0)
        self.assertEqual(len(rising_map(free_book(2, 2), 7, 0)), 128)
        self.assertEqual(len(rising_map(free_book(2, 1), 2000, 1)), 1)


if __name__ == "__main__":
    unittest.main()
