import unittest

from asking import MANY, NO_BOOK, NUMBERS_NOT, Asks, number
from ruleshadows.bars import gap
from ruleshadows.bases import is_fitting, lot_numbers
from ruleshadows.books import book_led, exchange_book, free_book, shut_book
from ruleshadows.ladders import fits, lost
from ruleshadows.placerooms import first_barred, fitting_at, gaps, place_rooms
from ruleshadows.places import at_place
from ruleshadows.rooms import room_dark
from ruleshadows.shadows import shadow
from samples import (
    bent_book, chance_book, chance_table, few_books, heart_book, longest, named_books, sided_books, small_books,
    told, told_book)
from test_bars import plain_gap
from test_bases import is_basis_of


class PlaceRooms(Asks, unittest.TestCase):
    def test_rooms_of_all_places(self):
        for book in few_books():
            for length in range(longest(book) + 1):
                rooms = place_rooms(book, length)
                self.assertEqual(rooms, [at_place(book, length, at) for at in range(length - 1)])
        self.assertEqual(place_rooms(exchange_book(2, 2), 0), [])
        self.assertEqual(place_rooms(exchange_book(2, 2), 1), [])
        self.assertEqual(len(place_rooms(shut_book(2, 1), 40)), 39)

    def test_gaps_by_the_plain_way(self):
        for book in few_books() + [bent_book(5), chance_book(2, 2, 2, 12)]:
            for length in range(longest(book) + 1):
                rooms = place_rooms(book, length)
                size = book.letters ** length
                found = gaps(book, length)
                self.assertIsInstance(found, tuple)
                self.assertEqual(found, tuple(gap(book.prime, size, rooms, at) for at in range(length - 1)), told(book))
                if length < 5:
                    plainly = tuple(plain_gap(book.prime, size, rooms, at) for at in range(length - 1))
                    self.assertEqual(found, plainly, told(book))

    def test_gaps_are_those_of_side_0(self):
        for book, known in zip(sided_books(), [(0, 0, 1, 0), (0, 1, 7, 0)]):
            rooms = place_rooms(book, 5)
            self.assertEqual(tuple(gap(book.prime, 243, rooms, at) for at in range(4)), known)
            self.assertEqual(gaps(book, 5), known)

    def test_heart_gaps_are_what_the_ladder_loses(self):
        for book in small_books():
            for length in range(longest(book) + 1):
                losses = lost(book, length, 0)
                size = book.letters ** length
                rooms = place_rooms(book, length)
                for place in range(length - 1):
                    self.assertEqual(gap(book.prime, size, rooms, place), losses[length - 1 - place], told(book))
                    self.assertEqual(gaps(book, length)[place], losses[length - 1 - place], told(book))

    def test_heart_one_basis(self):
        some = {True: 0, False: 0}
        for book in small_books() + [chance_book(3, 2, 2, seed) for seed in range(8)]:
            most = longest(book)
            there = []
            for length in range(most + 1):
                basis = fitting_at(book, length)
                if basis is not None:
                    is_basis_of(self, book.prime, book.letters ** length, place_rooms(book, length), basis)
                    self.assertEqual(fitting_at(book, length), basis)
                there.append(basis is not None)
                self.assertIs(fits(book, length), all(there), told(book))
                self.assertIs(first_barred(book, length) is None, all(there), told(book))
            some[all(there)] += 1
        self.assertTrue(some[True] > 5 and some[False] > 5)

    def test_first_barred_by_its_own_words(self):
        for book in small_books():
            most = longest(book)
            pairs = [(length, place) for length in range(most + 1) for place, x in enumerate(gaps(book, length)) if x]
            for bound in range(most + 1):
                here = [pair for pair in pairs if pair[0] <= bound]
                self.assertEqual(first_barred(book, bound), here[0] if here else None, told(book))

    def test_examples(self):
        book = told_book(3, 2, [{(0, 0): 1}, {(1, 0): 1, (1, 1): -1}])
        self.assertEqual(gaps(book, 4), (0, 1, 0))
        self.assertEqual(gaps(book, 3), (0, 0))
        self.assertEqual(first_barred(book, 6), (4, 1))
        self.assertIsNone(fitting_at(book, 4))
        self.assertIsNotNone(fitting_at(book, 3))
        self.assertGreater(sum(lot_numbers(3, 16, place_rooms(book, 4)).values()), 16)
        self.assertEqual((gaps(book, 0), gaps(book, 1), gaps(book, 2)), ((), (), (0,)))
        for prime in (2, 5):
            book = heart_book(prime, 1, 1)
            self.assertEqual(gaps(book, 5), (0, 1, 1, 0))
            self.assertEqual(first_barred(book, 5), (5, 1))
            self.assertIsNone(fitting_at(book, 5))
        self.assertEqual(sorted(fitting_at(free_book(3, 2), 1)), [(0, 1), (1, 0)])
        self.assertEqual(fitting_at(free_book(3, 2), 0), [(1,)])

    def test_facts(self):
        for book in small_books():
            dark = shadow(book)
            other = book_led(book, chance_table(book.prime, book.letters, 9))
            for length in range(longest(book) + 1):
                size = book.letters ** length
                turned = [room_dark(book.prime, size, room) for room in place_rooms(book, length)]
                self.assertEqual(place_rooms(dark, length), turned, told(book))
                self.assertIs(fitting_at(dark, length) is None, fitting_at(book, length) is None)
                self.assertEqual(gaps(other, length), gaps(book, length))
                if length < 4:
                    self.assertIsNotNone(fitting_at(book, length))

    def test_greater_books_that_fit(self):
        for prime in (2, 97):
            for letters, length in ((1, 9), (2, 8), (3, 5), (5, 3), (9, 3)):
                for book in named_books(prime, letters):
                    basis = fitting_at(book, length)
                    if letters < 9:
                        rooms = place_rooms(book, length)
                        self.assertIs(is_fitting(prime, letters ** length, rooms, basis), True)
                    self.assertEqual(len(basis), letters ** length)
                    self.assertEqual(gaps(book, length), (0,) * (length - 1))
        self.assertEqual(gaps(shut_book(2, 1), 60), (0,) * 59)
        self.assertIsNone(first_barred(shut_book(2, 1), 10 ** 10))

    def test_wrong_inputs_in_sequence(self):
        book = exchange_book(3, 2)
        for function in (place_rooms, fitting_at, gaps, first_barred):
            for wrong in (None, 0, "x", [book]):
                self.refuses(NO_BOOK, function, wrong, -1)
            part = "most" if function is first_barred else "length"
            for wrong in NUMBERS_NOT + (-1,):
                self.refuses(number(part), function, book, wrong)
            self.refuses(MANY, function, book, 10)
            self.refuses(MANY, function, free_book(2, 9), 10 ** 9)
        for length in (10, 11, 10 ** 9):
            self.refuses(("TooMany", 8), fitting_at, free_book(2, 1), length)
        self.assertEqual(fitting_at(free_book(2, 1), 9), [(1,)])


if __name__ == "__main__":
    unittest.main()
