import unittest

import plain
from asking import NUMBERS_NOT, Asks, number
from roomsamples import THREE, fits_by_numbers, fitted, four, lots, plain_numbers, samples
from ruleshadows.bases import fitting_basis, is_fitting, lot_numbers
from ruleshadows.lattices import closed_rooms
from ruleshadows.errors import TooMany
from ruleshadows.rooms import room_dark
from samples import chance_table
from test_lattices import WRONG_ROOMS


def is_basis_of(test, prime, size, rooms, basis):
    """Judges a fitting basis by its own words."""
    test.assertIsInstance(basis, list)
    test.assertEqual(len(basis), size)
    for row in basis:
        test.assertIsInstance(row, tuple)
        test.assertEqual(len(row), size)
        test.assertTrue(all(0 <= x < prime for x in row))
    test.assertEqual(plain.rank(prime, basis), size)
    for room in rooms:
        tidy = plain.gauss(prime, room) if room else []
        inside = [row for row in basis if plain.within(prime, tidy, row)]
        test.assertEqual(len(inside), len(tidy))


class Bases(Asks, unittest.TestCase):
    def test_heart_there_is_one_exactly_if_the_numbers_make_the_size(self):
        some = {True: 0, False: 0}
        for prime, size, rooms in samples():
            basis = fitting_basis(prime, size, rooms)
            some[basis is not None] += 1
            self.assertIs(basis is not None, fits_by_numbers(prime, size, rooms), (prime, size, rooms))
            if basis is not None:
                is_basis_of(self, prime, size, rooms, basis)
                self.assertIs(is_fitting(prime, size, rooms, basis), True)
                self.assertEqual(fitting_basis(prime, size, [list(room) for room in rooms]), basis)
        self.assertTrue(some[True] > 5 and some[False] > 5)

    def test_rooms_of_one_basis_have_one(self):
        for seed in range(20):
            prime, size, many = (2, 3, 97)[seed % 3], 2 + seed % 5, seed % 8 + 1
            rooms, basis = fitted(prime, size, many, seed)
            self.assertIs(is_fitting(prime, size, rooms, basis), True)
            is_basis_of(self, prime, size, rooms, fitting_basis(prime, size, rooms))

    def test_without_rooms(self):
        is_basis_of(self, 3, 4, [], fitting_basis(3, 4, []))
        self.assertEqual(fitting_basis(3, 0, []), [])
        self.assertEqual(fitting_basis(3, 0, [[()], []]), [])
        self.assertIs(is_fitting(3, 0, [[]], ()), True)
        self.assertIs(is_fitting(3, 0, [[]], [()]), False)
        self.assertEqual(lot_numbers(3, 4, []), {(): 4})

    def test_numbers_by_the_plain_way(self):
        for prime, size, rooms in samples():
            found = lot_numbers(prime, size, rooms)
            self.assertIsInstance(found, dict)
            self.assertEqual(list(found), lots(len(rooms)))
            self.assertEqual(found, plain_numbers(prime, size, rooms))
            self.assertGreaterEqual(sum(found.values()), size)
            basis = fitting_basis(prime, size, rooms)
            if basis is not None:
                tidy = [plain.gauss(prime, room) if room else [] for room in rooms]
                for lot in found:
                    here = [row for row in basis if tuple(
                        at for at in range(len(rooms)) if plain.within(prime, tidy[at], row)) == lot]
                    self.assertEqual(len(here), found[lot])

    def test_fact_closed_rooms_are_spanned(self):
        for prime, size, rooms in samples():
            basis = fitting_basis(prime, size, rooms)
            if basis is None or not rooms:
                continue
            try:
                closed = closed_rooms(prime, size, rooms, 60)
            except TooMany:
                continue
            for start in range(0, len(closed), 8):
                self.assertIs(is_fitting(prime, size, closed[start:start + 8], basis), True)
            self.assertLessEqual(len(closed), {1: 1, 2: 4, 3: 18}.get(len(rooms), 60))

    def test_fact_dark_rooms_and_rooms_led(self):
        for prime, size, rooms in samples():
            basis = fitting_basis(prime, size, rooms)
            dark = [room_dark(prime, size, room) for room in rooms]
            self.assertIs(fitting_basis(prime, size, dark) is None, basis is None)
            if basis is not None and size:
                told = plain.transposed(plain.undone(prime, basis))
                self.assertIs(is_fitting(prime, size, dark, told), True)
                table = chance_table(prime, size, 5)
                led = [[plain.summed(prime, table, row, size) for row in room] for room in rooms]
                told = [plain.summed(prime, table, row, size) for row in basis]
                self.assertIs(is_fitting(prime, size, led, told), True)

    def test_examples_by_hand(self):
        for prime in (2, 3, 97):
            self.assertEqual(lot_numbers(prime, 2, THREE), {
                (): 0, (0,): 1, (0, 1): 0, (0, 1, 2): 0, (0, 2): 0, (1,): 1, (1, 2): 0, (2,): 1})
            self.assertIsNone(fitting_basis(prime, 2, THREE))
            self.assertIsNone(fitting_basis(prime, 6, four(prime)))
            for left in range(4):
                three = four(prime)[:left] + four(prime)[left + 1:]
                is_basis_of(self, prime, 6, three, fitting_basis(prime, 6, three))

    def test_any_value_is_judged(self):
        rooms = [[(1, 0)], [(1, 1)]]
        for good in ([(1, 0), (1, 1)], ([1, 0], (1, 1)), ((4, 3), [-1, 2]), [(1, 1), (1, 0)]):
            self.assertIs(is_fitting(3, 2, rooms, good), True)
        for bad in (None, 0, "ab", [], [(1, 0)], [(1, 0), (0, 1)], [(1, 0), (1, 1), (0, 1)], [(1, 0), (2, 0)],
                    [(True, 0), (1, 1)], [(1, False), (1, 1)], [(1.0, 0), (1, 1)], [(1, 0), None], [(1, 0), (1, 1, 0)],
                    {0: (1, 0), 1: (1, 1)}, {(1, 0), (1, 1)}, [[1, 0], [1]], [(1, 0), (0, 0)], ["10", "11"]):
            self.assertIs(is_fitting(3, 2, rooms, bad), False, bad)

    def test_wrong_inputs_in_sequence(self):
        for function, last in ((fitting_basis, ()), (lot_numbers, ()), (is_fitting, (None,))):
            for wrong in NUMBERS_NOT + (0, 4, 98):
                self.refuses("BadPrime", function, wrong, -1, None, *last)
            for wrong in NUMBERS_NOT + (-1, 1001):
                self.refuses(number("size"), function, 3, wrong, None, *last)
            for wrong in WRONG_ROOMS:
                self.refuses("BadRow", function, 3, 2, wrong, *last)
            self.refuses("BadRow", function, 3, 2, [[]] * 9 + [None], *last)
            self.refuses(("TooMany", 8), function, 3, 2, [[]] * 9, *last)
            function(3, 2, [[(1, 0)]] * 8, *last)


if __name__ == "__main__":
    unittest.main()
