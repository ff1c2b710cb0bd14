import itertools
import unittest

import plain
from asking import NUMBERS_NOT, Asks, number
from ruleshadows.rooms import is_within, room_common, room_dark, room_sum, tidy
from samples import Numbers


def spanned(prime, size, rows):
    """All sums of multiples, each one by itself."""
    return {plain.summed(prime, rows, numbers, size) for numbers in itertools.product(range(prime), repeat=len(rows))}


def cases():
    numbers = Numbers(5)
    for prime, size in ((2, 1), (2, 4), (3, 3), (5, 2), (2, 6), (3, 4)):
        for many in range(0, 4):
            for thin in (1, 2):
                yield prime, size, numbers.rows(many, size, prime + 2, thin), numbers.rows(2, size, prime, thin)


class Rooms(Asks, unittest.TestCase):
    def test_tidy_by_its_own_words(self):
        for prime, size, one, _ in cases():
            found = tidy(prime, size, one)
            self.assertIsInstance(found, list)
            firsts = [plain.first(row) for row in found]
            self.assertEqual(firsts, sorted(set(firsts)))
            for row in found:
                self.assertIsInstance(row, tuple)
                self.assertEqual([row[at] for at in firsts], [int(at == plain.first(row)) for at in firsts])
                self.assertTrue(all(0 <= x < prime for x in row))
            self.assertEqual(spanned(prime, size, found), spanned(prime, size, one))

    def test_sums_and_common_parts_by_all_their_rows(self):
        for prime, size, one, other in cases():
            both = spanned(prime, size, one) & spanned(prime, size, other)
            found = room_common(prime, size, one, other)
            self.assertEqual(found, tidy(prime, size, found))
            self.assertEqual(spanned(prime, size, found), both)
            self.assertEqual(room_sum(prime, size, one, other), tidy(prime, size, one + other))
            self.assertEqual(is_within(prime, size, one, other),
                             spanned(prime, size, other) <= spanned(prime, size, one))
            self.assertTrue(is_within(prime, size, one, found))
            self.assertTrue(is_within(prime, size, one + other, one))

    def test_dark_by_all_rows(self):
        for prime, size, one, other in cases():
            found = room_dark(prime, size, one)
            told = {row for row in itertools.product(range(prime), repeat=size)
                    if all(sum(x * y for x, y in zip(row, seen)) % prime == 0 for seen in one)}
            self.assertEqual(spanned(prime, size, found), told)
            self.assertEqual(found, tidy(prime, size, found))
            self.assertEqual(room_dark(prime, size, found), tidy(prime, size, one))
            dark = room_dark(prime, size, other)
            self.assertEqual(room_common(prime, size, found, dark),
                             room_dark(prime, size, room_sum(prime, size, one, other)))
            self.assertEqual(room_sum(prime, size, found, dark),
                             room_dark(prime, size, room_common(prime, size, one, other)))

    def test_greater_rooms_by_the_plain_way(self):
        for prime, size, many, thin in ((97, 12, 5, 1), (2, 30, 12, 3), (5, 20, 9, 4), (13, 15, 15, 2)):
            one, other = Numbers(size).rows(many, size, prime, thin), Numbers(many).rows(many, size, prime, thin)
            self.assertEqual(tidy(prime, size, one), plain.gauss(prime, one))
            self.assertEqual(room_dark(prime, size, one), plain.dark(prime, one, size))
            one, other = one + other[:3], other + one[:2]
            self.assertEqual(room_common(prime, size, one, other), plain.common(prime, one, other, size))

    def test_without_rows_and_without_places(self):
        self.assertEqual(tidy(3, 2, []), [])
        self.assertEqual(tidy(3, 2, [[0, 3], (6, 0)]), [])
        self.assertEqual(tidy(3, 0, [[], ()]), [])
        self.assertEqual(room_dark(3, 0, []), [])
        self.assertEqual(room_sum(3, 0, [], [()]), [])
        self.assertEqual(room_common(3, 2, [], [[1, 0]]), [])
        self.assertEqual(room_dark(3, 2, []), [(1, 0), (0, 1)])
        self.assertEqual(room_dark(3, 2, [(1, 1)]), [(1, 2)])
        self.assertIs(is_within(3, 2, [], []), True)
        self.assertIs(is_within(3, 2, [], [[3, 0]]), True)
        self.assertIs(is_within(3, 2, [], [[1, 0]]), False)
        self.assertEqual(len(room_dark(2, 1000, [[1] * 1000])), 999)
        self.assertEqual(tidy(2, 1000, [[0] * 999 + [3]]), [(0,) * 999 + (1,)])

    def test_wrong_inputs_in_sequence(self):
        one_room, two_rooms = (tidy, room_dark), (room_sum, room_common, is_within)
        for function in one_room + two_rooms:
            last = [None] * (1 if function in one_room else 2)
            for wrong in NUMBERS_NOT + (0, 1, 4, 99):
                self.refuses("BadPrime", function, wrong, -1, *last)
            for wrong in NUMBERS_NOT + (-1, 1001):
                self.refuses(number("size"), function, 3, wrong, *last)
            for wrong in (None, 1, "ab", [1, 2], [[1, 2, 3]], [[1]], [[1, 0], [True, 0]], [[1, 0], None], {1: 2}, [[]]):
                self.refuses("BadRow", function, 3, 2, wrong, *last[1:])
                if function in two_rooms:
                    self.refuses("BadRow", function, 3, 2, wrong, [[1, 0]])
                    self.refuses("BadRow", function, 3, 2, [[1, 0]], wrong)


if __name__ == "__main__":
    unittest.main()
