import unittest

import plain
from asking import MANY, NO_BOOK, NUMBERS_NOT, Asks, number
from ruleshadows.books import exchange_book, free_book, minus_book, shut_book
from ruleshadows.places import at_place, at_places, common_at, common_room, pairing
from ruleshadows.rests import count, nothing_room, rest_words
from ruleshadows.rooms import room_dark
from ruleshadows.shadows import shadow
from samples import chance_book, few_books, longest, small_books, told


def some_places(length):
    """All lots of places of this length."""
    lots = [()]
    for at in range(length - 1):
        lots += [lot + (at,) for lot in lots]
    return lots


class Places(Asks, unittest.TestCase):
    def test_one_place_by_the_plain_way(self):
        for book in small_books():
            for length in range(2, longest(book) + 1):
                for at in range(length - 1):
                    room = plain.place(book.prime, book.letters, book.rules, length, at)
                    self.assertEqual(at_place(book, length, at), room, (told(book), length, at))

    def test_several_places_by_the_plain_way(self):
        for book in few_books():
            for length in range(longest(book) + 1):
                size = book.letters ** length
                for places in some_places(length):
                    rooms = [plain.place(book.prime, book.letters, book.rules, length, at) for at in places]
                    together = plain.gauss(book.prime, [row for room in rooms for row in room])
                    self.assertEqual(at_places(book, length, places), together, (told(book), length, places))
                    common = plain.common_of(book.prime, rooms, size)
                    self.assertEqual(common_at(book, length, places), common, (told(book), length, places))

    def test_places_in_any_sequence_and_twice(self):
        book = chance_book(5, 3, 4, 1)
        self.assertEqual(at_places(book, 4, [2, 0, 2]), at_places(book, 4, (0, 2)))
        self.assertEqual(common_at(book, 4, [2, 0, 2, 0]), common_at(book, 4, (0, 2)))
        self.assertEqual(at_places(book, 4, [1, 1]), at_place(book, 4, 1))

    def test_all_rows_where_nothing_is_asked(self):
        self.assertEqual(at_places(shut_book(3, 2), 1, []), [])
        self.assertEqual(common_at(free_book(3, 2), 1, []), [(1, 0), (0, 1)])
        self.assertEqual(common_at(free_book(3, 2), 0, ()), [(1,)])
        self.assertEqual(common_at(free_book(3, 2), 2, ()), plain.identity(4))
        self.assertEqual(common_room(free_book(3, 2), 0), [(1,)])
        self.assertEqual(common_room(free_book(3, 3), 1), plain.identity(3))
        self.assertEqual(common_room(free_book(3, 3), 2), [])
        self.assertEqual(len(common_room(shut_book(3, 9), 3)), 729)
        self.assertEqual(common_room(shut_book(3, 1), 300), [(1,)])
        self.assertEqual(common_at(shut_book(3, 1), 300, list(range(299))), [(1,)])

    def test_heart_common_rooms_and_rests_of_the_shadow(self):
        for book in small_books():
            dark = shadow(book)
            for length in range(longest(book) + 1):
                room = common_room(book, length)
                self.assertEqual(room, plain.commons(book.prime, book.letters, book.rules, length), told(book))
                self.assertEqual(len(room), count(dark, length), told(book))
                self.assertEqual(room, common_at(book, length, list(range(length - 1))))
                size = book.letters ** length
                self.assertEqual(room, room_dark(book.prime, size, nothing_room(dark, length)), told(book))
                self.assertEqual(at_places(book, length, list(range(length - 1))), nothing_room(book, length))

    def test_heart_pairings_can_be_undone(self):
        for book in small_books():
            for length in range(longest(book) + 1):
                square = pairing(book, length)
                spots = [plain.spot(book.letters, word) for word in rest_words(shadow(book), length)]
                self.assertEqual(square, tuple(tuple(row[k] for k in spots) for row in common_room(book, length)))
                self.assertTrue(all(len(row) == len(square) for row in square))
                self.assertEqual(plain.rank(book.prime, square), len(square), (told(book), length))
        self.assertEqual(pairing(free_book(2, 2), 3), ())
        self.assertEqual(pairing(minus_book(3, 2), 0), ((1,),))
        self.assertEqual(pairing(exchange_book(3, 2), 2), ((2,),))

    def test_wrong_inputs_in_sequence(self):
        calls = [(at_place, (None,)), (at_places, (None,)), (common_at, (None,)), (common_room, ()), (pairing, ())]
        book = exchange_book(3, 2)
        for function, others in calls:
            for wrong in (None, 5, "x", [book]):
                self.refuses(NO_BOOK, function, wrong, -1, *others)
            for wrong in NUMBERS_NOT + (-1,):
                self.refuses(number("length"), function, book, wrong, *others)
            self.refuses(MANY, function, book, 10, *others)
            self.refuses(MANY, function, free_book(2, 5), 10 ** 9, *others)
        for wrong in NUMBERS_NOT + (-1, 3, 4):
            self.refuses(number("place"), at_place, book, 4, wrong)
            self.refuses(number("place"), at_places, book, 4, [0, wrong])
            self.refuses(number("place"), common_at, book, 4, (wrong,))
        for wrong in (None, 0, "01", {0: 1}):
            self.refuses(number("place"), at_places, book, 4, wrong)
            self.refuses(number("place"), common_at, book, 4, wrong)
        for length in (0, 1):
            self.refuses(number("place"), at_place, book, length, 0)
            self.refuses(number("place"), at_places, book, length, [0])
            self.refuses(number("place"), common_at, book, length, [0])


if __name__ == "__main__":
    unittest.main()
