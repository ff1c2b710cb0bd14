import itertools
import unittest

import plain
from asking import NUMBERS_NOT, Asks, number
from roomsamples import THREE, chance_rooms, fitted, four, samples, three_of_all_sorts, together
from ruleshadows.lattices import all_common, all_sum, closed_rooms
from ruleshadows.errors import TooMany

WRONG_ROOMS = (None, 0, "ab", [1], [[1, 2]], [[[1, 2, 3]]], [[[1, 0]], None], [[[1, True]]], {0: []},
               [[(1, 0)], [(1,)]])


def all_closed(prime, size, rooms):
    """Sums and common parts of any two, again and again, the plain way."""
    found = {tuple(plain.gauss(prime, room)) if room else () for room in rooms}
    while True:
        more = set(found)
        for one, other in itertools.product(found, repeat=2):
            more.add(tuple(together(prime, [one, other])))
            more.add(tuple(plain.common(prime, one, other, size)))
        if more == found:
            return [list(room) for room in sorted(found, key=lambda room: (len(room), room))]
        found = more


class Lattices(Asks, unittest.TestCase):
    def test_sums_and_common_parts(self):
        for prime, size, rooms in samples():
            self.assertEqual(all_sum(prime, size, rooms), together(prime, rooms))
            self.assertEqual(all_common(prime, size, rooms), plain.common_of(prime, rooms, size))
        self.assertEqual(all_sum(3, 2, []), [])
        self.assertEqual(all_common(3, 2, []), [(1, 0), (0, 1)])
        self.assertEqual(all_common(3, 2, [[(2, 1)]]), [(1, 2)])
        self.assertEqual(all_sum(3, 0, []), [])

    def test_closed_by_the_plain_way(self):
        for prime, size, rooms in samples():
            if len(rooms) > 3 and prime > 3:
                continue
            wanted = all_closed(prime, size, rooms) if rooms else []
            if len(wanted) <= 200:
                found = closed_rooms(prime, size, rooms, 200)
                self.assertEqual(found, wanted)
                self.assertIsInstance(found, list)
                if wanted:
                    self.assertEqual(closed_rooms(prime, size, rooms, len(wanted)), wanted)
                if len(wanted) > 1:
                    self.refuses(("TooMany", len(wanted) - 1), closed_rooms, prime, size, rooms, len(wanted) - 1)

    def test_examples(self):
        self.assertEqual(closed_rooms(3, 2, THREE, 5), [
            [], [(0, 1)], [(1, 0)], [(1, 1)], [(1, 0), (0, 1)]])
        self.refuses(("TooMany", 4), closed_rooms, 3, 2, THREE, 4)
        self.assertEqual(closed_rooms(3, 2, [], 1), [])
        self.assertEqual(closed_rooms(3, 2, [[(2, 0)]], 1), [[(1, 0)]])
        self.assertEqual(closed_rooms(3, 2, [[(2, 0)], [(1, 0), (1, 0)]], 1), [[(1, 0)]])
        self.refuses(("TooMany", 1), closed_rooms, 3, 2, [[(2, 0)], []], 1)

    def test_facts_of_how_many(self):
        greatest = [0, 0, 0]
        for seed in range(40):
            prime, size = (2, 3)[seed % 2], 3 + seed % 4
            for many in (1, 2, 3):
                found = len(closed_rooms(prime, size, chance_rooms(prime, size, many, seed), 28))
                greatest[many - 1] = max(greatest[many - 1], found)
                self.assertLessEqual(len(closed_rooms(prime, size, fitted(prime, size, many, seed)[0], 18)), 18)
        self.assertEqual(greatest[:2], [1, 4])
        for crossed, many in ((False, 18), (True, 28)):
            size, rooms = three_of_all_sorts(crossed)
            self.assertEqual(len(closed_rooms(3, size, rooms, many)), many)
            self.refuses(("TooMany", many - 1), closed_rooms, 3, size, rooms, many - 1)
        self.refuses(("TooMany", 200), closed_rooms, 97, 3, [[(1, 0, 0)], [(0, 1, 0)], [(0, 0, 1)], [(1, 1, 1)]], 200)

    def test_wrong_inputs_in_sequence(self):
        for function, last in ((all_sum, ()), (all_common, ()), (closed_rooms, (0,))):
            for wrong in NUMBERS_NOT + (0, 4, 98):
                self.refuses("BadPrime", function, wrong, -1, None, *last)
            for wrong in NUMBERS_NOT + (-1, 1001):
                self.refuses(number("size"), function, 3, wrong, None, *last)
            for wrong in WRONG_ROOMS:
                self.refuses("BadRow", function, 3, 2, wrong, *last)
            self.refuses("BadRow", function, 3, 2, [[]] * 9 + [None], *last)
        for function, last in ((all_sum, ()), (all_common, ()), (closed_rooms, (1,))):
            self.refuses(("TooMany", 8), function, 3, 2, [[]] * 9, *last)
            function(3, 2, [[(1, 0)]] * 8, *last)
        for wrong in NUMBERS_NOT + (0, 201, -1):
            self.refuses(number("most"), closed_rooms, 3, 2, [[]] * 9, wrong)
        self.refuses(("TooMany", 8), closed_rooms, 3, 2, [[(1, k)] for k in range(3)] * 3, 1)
        with self.assertRaises(TooMany):
            closed_rooms(2, 6, four(2), 4)


if __name__ == "__main__":
    unittest.main()
