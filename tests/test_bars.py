import unittest

import plain
from asking import NUMBERS_NOT, Asks, number
from roomsamples import THREE, chance_rooms, four, lot_common, lots, samples, together
from ruleshadows.bars import bar, counted_size, gap, is_bar
from ruleshadows.bases import fitting_basis
from test_lattices import WRONG_ROOMS


def plain_gap(prime, size, rooms, at):
    x, y = together(prime, rooms[:at]), together(prime, rooms[at:at + 1])
    z = plain.common_of(prime, rooms[at + 1:], size)
    both = plain.common(prime, y, together(prime, [x, z]), size)
    apart = together(prime, [plain.common(prime, y, x, size), plain.common(prime, y, z, size)])
    return len(both) - len(apart)


class Bars(Asks, unittest.TestCase):
    def test_gaps_by_the_plain_way(self):
        for prime, size, rooms in samples():
            for at in range(len(rooms)):
                found = gap(prime, size, rooms, at)
                self.assertEqual(found, plain_gap(prime, size, rooms, at), (prime, size, rooms))
                x, y = together(prime, rooms[:at]), together(prime, rooms[at:at + 1])
                z = plain.common_of(prime, rooms[at + 1:], size)
                xy, xz, yz = (plain.common(prime, *pair, size) for pair in ((x, y), (x, z), (y, z)))
                xyz, s = plain.common(prime, xy, z, size), together(prime, [x, y, z])
                self.assertEqual(found, len(x) + len(y) + len(z) - len(xy) - len(xz) - len(yz) + len(xyz) - len(s))
                if at in (0, len(rooms) - 1):
                    self.assertEqual(found, 0)

    def test_heart_a_bar_or_a_fitting_basis(self):
        some = [0, 0]
        for prime, size, rooms in samples() + [(3, 4, chance_rooms(3, 4, 5, seed)) for seed in range(10)]:
            found, basis = bar(prime, size, rooms), fitting_basis(prime, size, rooms)
            self.assertIs(found is None, basis is not None, (prime, size, rooms))
            bars = [(lot, at) for lot in lots(len(rooms)) if len(lot) > 2 for at in range(len(lot))
                    if plain_gap(prime, size, [rooms[k] for k in lot], at)]
            some[bool(bars)] += 1
            self.assertIs(found is None, not bars)
            if bars:
                self.assertIn(found, bars)
                self.assertIsInstance(found, tuple)
                self.assertIsInstance(found[0], tuple)
            self.assertEqual(bar(prime, size, [tuple(room) for room in rooms]), found)
            for lot in lots(len(rooms)):
                for at in range(len(lot) + 1):
                    self.assertIs(is_bar(prime, size, rooms, (lot, at)), (lot, at) in bars, (lot, at))
        self.assertTrue(min(some) > 5)

    def test_two_rooms_have_no_bar(self):
        for seed in range(10):
            self.assertIsNone(bar(5, 4, chance_rooms(5, 4, 2, seed)))
        self.assertIsNone(bar(5, 4, []))

    def test_examples_by_hand(self):
        for prime in (2, 5):
            self.assertEqual([gap(prime, 2, THREE, at) for at in range(3)], [0, 1, 0])
            self.assertEqual(bar(prime, 2, THREE), ((0, 1, 2), 1))
            self.assertEqual(counted_size(prime, 2, THREE), 3)
            rooms = four(prime)
            self.assertEqual(counted_size(prime, 6, rooms), 6)
            self.assertEqual(len(together(prime, rooms)), 6)
            self.assertEqual([gap(prime, 6, rooms, at) for at in range(4)], [0, 1, 1, 0])
            self.assertIn(bar(prime, 6, rooms), [((0, 1, 2, 3), 1), ((0, 1, 2, 3), 2)])

    def test_the_index_of_a_bar_is_one_of_its_lot(self):
        rooms = [[], [(1, 0), (0, 1)]] + THREE
        self.assertEqual(bar(3, 2, rooms), ((2, 3, 4), 1))
        self.assertIs(is_bar(3, 2, rooms, ((2, 3, 4), 1)), True)
        self.assertIs(is_bar(3, 2, rooms, ((2, 3, 4), 3)), False)

    def test_any_value_is_judged(self):
        self.assertIs(is_bar(3, 2, THREE, ((0, 1, 2), 1)), True)
        for wrong in (
                None, 1, "ab", (), ((0, 1, 2),), ((0, 1, 2), 1, 1), [(0, 1, 2), 1], ([0, 1, 2], 1), ("012", 1),
                (None, 1),
                ((0, 1, 2), 0), ((0, 1, 2), 2), ((0, 1, 2), 3), ((0, 1, 2), -1), ((0, 1, 2), -2), ((0, 1, 2), True),
                ((0, 1, 2), None), ((0, 1, 2), 1.0), ((0, 1.0, 2), 1), ((0, True, 2), 1), ((False, 1, 2), 1),
                ((2, 1, 0), 1), ((0, 2, 1), 1), ((0, 1, 3), 1), ((-1, 1, 2), 1), ((0, 1), 1), ((0, 1, 1), 1),
                ((0, 1, 2, 2), 1), ((0, 0, 1, 2), 2)):
            self.assertIs(is_bar(3, 2, THREE, wrong), False, wrong)

    def test_counted_sizes(self):
        for prime, size, rooms in samples():
            total = sum((-1) ** (len(lot) + 1) * len(lot_common(prime, size, rooms, lot))
                        for lot in lots(len(rooms)) if lot)
            self.assertEqual(counted_size(prime, size, rooms), total)
            everything = len(together(prime, rooms))
            if len(rooms) < 3 or fitting_basis(prime, size, rooms) is not None:
                self.assertEqual(total, everything)
            if len(rooms) == 3:
                self.assertEqual(total, everything + gap(prime, size, rooms, 1))
        self.assertEqual(counted_size(3, 2, []), 0)

    def test_wrong_inputs_in_sequence(self):
        for function, last in ((gap, (-1,)), (bar, ()), (counted_size, ()), (is_bar, (None,))):
            for wrong in NUMBERS_NOT + (0, 4, 98):
                self.refuses("BadPrime", function, wrong, -1, None, *last)
            for wrong in NUMBERS_NOT + (-1, 1001):
                self.refuses(number("size"), function, 3, wrong, None, *last)
            for wrong in WRONG_ROOMS:
                self.refuses("BadRow", function, 3, 2, wrong, *last)
            self.refuses("BadRow", function, 3, 2, [[]] * 9 + [None], *last)
        for function, last in ((gap, (3,)), (bar, ()), (counted_size, ()), (is_bar, (None,))):
            self.refuses(("TooMany", 8), function, 3, 2, [[]] * 9, *last)
            function(3, 2, [[(1, 0)]] * 8, *last)
        for wrong in NUMBERS_NOT + (-1, 9, 10):
            self.refuses(number("at"), gap, 3, 2, [[]] * 9, wrong)
        self.refuses(number("at"), gap, 3, 2, [], 0)
        self.refuses(number("at"), gap, 3, 2, THREE, 3)


if __name__ == "__main__":
    unittest.main()
