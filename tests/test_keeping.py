import unittest

import plain
from asking import MANY, NO_BOOK, NUMBERS_NOT, Asks, number
from cellsamples import (
    all_cells, chance_cells, few_twos, plainly_keep, plainly_led, plainly_sent, some_cells, told_cells)
from restsamples import count_of, dark_of, nothing_of, rests_of, unit_of
from ruleshadows.books import Rules, exchange_book, free_book, minus_book, shut_book
from ruleshadows.keeping import beside_led, cells_keep, cells_sent, keeping_book, plain_cells
from ruleshadows.maps import is_map
from ruleshadows.products import black_product
from ruleshadows.rests import count, nothing_room, rest
from ruleshadows.shadows import shadow
from samples import Numbers, bent_book, chance_book, chance_row, told, told_book

PRIME = ("BadBook", "prime")
LETTERS = number("letters")
BOOKS_NOT = (None, 0, "x", [free_book(2, 1)], (2, 1, ()))


def kept():
    return [given for given in some_cells() if cells_keep(*given)]


def many_up_to(one, other, third, length):
    """Lengths that are small enough for the plain way."""
    return [many for many in range(4) if one.letters ** many <= 9 and other.letters ** many <= 9
            and third.letters ** (length * many) <= 64]


class Keeping(Asks, unittest.TestCase):
    def test_keep_by_full_rows(self):
        some = {True: 0, False: 0}
        for given in some_cells():
            found = cells_keep(*given)
            some[found] += 1
            self.assertIs(found, plainly_keep(*given), told_cells(*given))
        self.assertTrue(some[True] > 80 and some[False] > 60, some)

    def test_keep_all_cells_there_are(self):
        for one, other, third, length in (
                (shut_book(3, 1), free_book(3, 1), told_book(3, 2, [{(0, 0): 1, (0, 1): 1}]), 1),
                (shut_book(2, 1), free_book(2, 1), chance_book(2, 2, 1, 3), 2),
                (exchange_book(2, 2), free_book(2, 1), bent_book(2), 1),
                (shut_book(2, 1), exchange_book(2, 2), bent_book(2), 1),
                (bent_book(2), bent_book(2), free_book(2, 1), 1),
                (bent_book(2), minus_book(2, 2), shut_book(2, 1), 0)):
            some = {True: 0, False: 0}
            for cells in all_cells(one, other, third, length):
                found = cells_keep(one, other, third, length, cells)
                some[found] += 1
                self.assertIs(found, plainly_keep(one, other, third, length, cells))
            self.assertTrue(some[True] and some[False], told(one))

    def test_keep_of_any_value(self):
        one, other, third = exchange_book(3, 2), free_book(3, 1), shut_book(3, 2)
        right = [[[1, 2]], [[0, 7]]]
        self.assertIs(cells_keep(one, other, third, 1, right), True)
        self.assertIs(cells_keep(one, other, third, 1, (((1, 2),), ([-5, 7],))), True)
        for wrong in (None, True, 0, "ab", [], [[[1, 2]]], [[[1, 2]], [[0, 7]], [[0, 0]]], [[[1, 2], [1, 2]]] * 2,
                      [[[1, 2]], [[0, 7, 0]]], [[[1, 2]], [[0, True]]], [[[1, 2]], [[0, 1.0]]], [[1, 2], [0, 7]],
                      [[[1, 2]], {0: [0, 7]}], {0: [[1, 2]], 1: [[0, 7]]}, [["ab"], ["cd"]], [[[1, 2]], None]):
            self.assertIs(cells_keep(one, other, third, 1, wrong), False, wrong)

    def test_cells_of_length_0_keep_exactly_if_they_are_a_map(self):
        some = {True: 0, False: 0}
        for one, other in few_twos():
            for seed in range(6):
                table = Numbers(seed).rows(one.letters, other.letters, one.prime, 1 + seed % 3)
                cells = [[[x] for x in row] for row in table]
                found = is_map(one, other, table)
                some[found] += 1
                self.assertIs(cells_keep(one, other, bent_book(one.prime), 0, cells), found)
        self.assertTrue(some[True] > 10 and some[False] > 10)

    def test_led_by_full_rows(self):
        for given in kept():
            one, other, third, length, _ = given
            for many in many_up_to(one, other, third, length):
                row = chance_row(one.letters ** many, 2 * one.prime, many + 3)
                found = beside_led(*given, many, row)
                self.assertTrue(isinstance(found, list) and all(isinstance(part, tuple) for part in found))
                self.assertEqual(found, plainly_led(*given, many, row), told_cells(*given))

    def test_heart_nothing_is_led_to_nothing(self):
        some = 0
        for given in kept():
            one, other, third, length, _ = given
            for many in range(2, 5):
                if max(one.letters, other.letters, third.letters ** length) ** many > 130:
                    continue
                for row in nothing_room(one, many)[:12]:
                    some += 1
                    self.assertFalse(any(any(part) for part in beside_led(*given, many, row)), told_cells(*given))
        self.assertGreater(some, 300)

    def test_keeping_books_by_their_own_words(self):
        for one, other in few_twos():
            n, m = one.letters, other.letters
            rows = []
            for rule in one.rules:
                for told_row in dark_of(other):
                    made = {}
                    for x, (a, b) in zip(rule, plain.words(n, 2)):
                        for y, (c, d) in zip(told_row, plain.words(m, 2)):
                            made[(a * m + c, b * m + d)] = x * y
                    rows.append(made)
            found = keeping_book(one, other)
            self.assertEqual(found, told_book(one.prime, n * m, rows))
            self.assertEqual(found, black_product(one, shadow(other)))

    def test_plain_cells(self):
        for one, other in few_twos():
            n, m = one.letters, other.letters
            cells = plain_cells(one, other)
            self.assertEqual(cells, tuple(tuple(plain.unit(n * m, a * m + c) for c in range(m)) for a in range(n)))
            self.assertIs(cells_keep(one, other, keeping_book(one, other), 1, cells), True)

    def test_sent_by_full_rows(self):
        for given in kept():
            one, other, third, length, _ = given
            pairs = one.letters * other.letters
            for many in range(3):
                if pairs ** many > 16 or third.letters ** (length * many) > 64:
                    continue
                row = chance_row(pairs ** many, 2 * one.prime, many + 8)
                found = cells_sent(*given, many, row)
                self.assertIsInstance(found, tuple)
                self.assertEqual(found, plainly_sent(*given, many, row), told_cells(*given))

    def test_heart_all_come_from_one(self):
        some = {True: 0, False: 0}
        for one, other, third, length, cells in some_cells():
            rules = keeping_book(one, other).rules
            nothing = all(not any(plainly_sent(one, other, third, length, cells, 2, rule)) for rule in rules)
            some[nothing] += 1
            self.assertIs(cells_keep(one, other, third, length, cells), nothing)
        self.assertTrue(some[True] > 80 and some[False] > 60)

    def test_heart_what_comes_from_the_plain_cells(self):
        some = 0
        for given in kept():
            one, other, third, length, _ = given
            keeping = keeping_book(one, other)
            for many in range(4):
                if keeping.letters ** many > 64 or third.letters ** (length * many) > 64:
                    continue
                for row in nothing_room(keeping, many)[:10]:
                    some += 1
                    self.assertFalse(any(cells_sent(*given, many, row)), told_cells(*given))
                row = chance_row(one.letters ** many, one.prime, many)
                parts = beside_led(one, other, keeping, 1, plain_cells(one, other), many, row)
                self.assertEqual(beside_led(*given, many, row), [cells_sent(*given, many, part) for part in parts])
        self.assertGreater(some, 300)

    def test_heart_counts_of_the_shadow(self):
        for one, other in few_twos():
            dark = shadow(keeping_book(one, other))
            for length in range({1: 6, 2: 6, 3: 5, 4: 4, 6: 3}[dark.letters] + 1):
                wanted = count(shadow(one), length) * count(other, length)
                self.assertEqual(count(dark, length), wanted, (told(one), told(other)))
                if dark.letters ** length < 70:
                    self.assertEqual(count_of(dark, length), wanted)

    def test_fact_of_the_shadows_with_pairs_turned(self):
        for one, other in few_twos():
            n, m = one.letters, other.letters
            turned = keeping_book(shadow(other), shadow(one))
            names = [pair % n * m + pair // n for pair in range(n * m)]
            rules = [{(names[x], names[y]): number for number, (x, y) in zip(rule, plain.words(n * m, 2))}
                     for rule in turned.rules]
            self.assertEqual(told_book(one.prime, n * m, rules), keeping_book(one, other))

    def test_examples_by_hand(self):
        free, shut = free_book(5, 1), shut_book(5, 1)
        self.assertEqual(keeping_book(shut, free), shut)
        self.assertEqual(keeping_book(shut, shut), free)
        self.assertEqual(keeping_book(free, shut), free)
        # A cell keeps exactly if it is nothing when followed by itself.
        for third, cell, wanted in ((minus_book(5, 2), [1, 2], True), (exchange_book(5, 2), [1, 2], False),
                                    (told_book(5, 2, [{(0, 0): 1}]), [3, 0], True)):
            self.assertIs(cells_keep(shut, free, third, 1, [[cell]]), wanted)
            self.assertIs(cells_keep(shut, shut, third, 1, [[cell]]), True)
        # Three times a, beside one letter: a word of two letters is led to nine times aa.
        self.assertEqual(beside_led(free, free, exchange_book(5, 2), 1, [[[3, 0]]], 2, [7]), [(3, 0, 0, 0)])
        self.assertEqual(cells_sent(free, free, exchange_book(5, 2), 1, [[[0, 1]]], 0, [7]), (2,))
        self.assertEqual(beside_led(free, shut, free, 1, [[[3]]], 2, [1]), [])
        self.assertEqual(beside_led(free, shut, free, 1, [[[3]]], 1, [2]), [(1,)])
        self.assertEqual(beside_led(free, free, free, 0, [[[3]]], 3, [1]), [(2,)])
        # Letters 0, 1 exchanged with one another on both sides: the sum of pairs at the rest words 00, 10, 11.
        book = exchange_book(3, 2)
        found = beside_led(book, book, keeping_book(book, book), 1, plain_cells(book, book), 2, unit_of(2, (0, 1)))
        every = plain.words(4, 2)
        wanted = [{(0, 2): 1}, {(0, 3): 1, (1, 2): 1}, {(1, 3): 1}]
        self.assertEqual(rests_of(book, 2), [(0, 0), (1, 0), (1, 1)])
        self.assertEqual(found, [rest(keeping_book(book, book), 2, [row.get(word, 0) for word in every])
                                 for row in wanted])

    def test_greater_cells(self):
        one, other = chance_book(97, 9, 40, 1), chance_book(97, 9, 41, 2)
        third = exchange_book(97, 5)
        self.assertIs(cells_keep(one, other, third, 2, chance_cells(one, other, third, 2, 5)), False)
        self.assertIs(cells_keep(one, other, shut_book(97, 9), 1, chance_cells(one, other, shut_book(97, 9), 1, 5)),
                      True)
        nothing = [[[0] * 25] * 9] * 9
        self.assertEqual(beside_led(one, other, third, 2, nothing, 1, [1] * 9), [(0,) * 25] * 9)
        one, other, third = free_book(2, 9), shut_book(2, 9), exchange_book(2, 2)
        self.assertIs(cells_keep(one, other, third, 1, chance_cells(one, other, third, 1, 1)), True)
        self.assertEqual(keeping_book(shut_book(5, 9), free_book(5, 1)), shut_book(5, 9))

    def test_wrong_books_in_sequence(self):
        one, other = free_book(3, 2), free_book(2, 2)
        for function, more in ((cells_keep, (None, None)), (beside_led, (None,) * 4), (cells_sent, (None,) * 4)):
            for wrong in BOOKS_NOT:
                self.refuses(NO_BOOK, function, wrong, None, None, *more)
                self.refuses(NO_BOOK, function, one, wrong, None, *more)
                self.refuses(NO_BOOK, function, one, other, wrong, *more)
            for given in ((one, other, one), (one, one, other), (other, one, one)):
                self.refuses(PRIME, function, *given, *more)
        for function in (keeping_book, plain_cells):
            for wrong in BOOKS_NOT:
                self.refuses(NO_BOOK, function, wrong, None)
                self.refuses(NO_BOOK, function, one, wrong)
            self.refuses(PRIME, function, free_book(3, 9), free_book(2, 9))
            self.refuses(LETTERS, function, free_book(3, 5), free_book(3, 2))
            self.refuses(LETTERS, function, free_book(3, 2), free_book(3, 5))
        # Only where the keeping book is spoken of its letters are counted.
        self.refuses(LETTERS, cells_sent, free_book(3, 5), free_book(3, 2), one, None, None, None, None)
        self.refuses(number("length"), beside_led, free_book(3, 5), free_book(3, 2), one, None, None, None, None)
        self.assertIs(cells_keep(free_book(3, 5), free_book(3, 2), one, 0, [[[1], [2]]] * 5), True)

    def test_wrong_inputs_in_sequence(self):
        one, other, third = exchange_book(3, 2), exchange_book(3, 2), free_book(3, 3)
        zero = [[[0, 0, 0]] * 2] * 2
        for function, more in ((cells_keep, ()), (beside_led, (None, None)), (cells_sent, (None, None))):
            for wrong in NUMBERS_NOT + (-1,):
                self.refuses(number("length"), function, one, other, third, wrong, None, *more)
            self.refuses(MANY, function, one, other, third, 4, None, *more)
        self.assertIs(cells_keep(one, other, third, 3, [[[0] * 27] * 2] * 2), True)
        bad = [[[1, 0, 0], [0, 1, 0]], [[0, 0, 1], [0, 0, 0]]]
        self.assertIs(cells_keep(one, other, third, 1, bad), False)
        for function in (beside_led, cells_sent):
            for wrong in (None, 0, [], [[[0, 0, 0]] * 2], [[[0, 0]] * 2] * 2, [[[0, 0, True]] * 2] * 2, bad):
                self.refuses("BadCells", function, one, other, third, 1, wrong, None, None)
            for wrong in NUMBERS_NOT + (-1,):
                self.refuses(number("many"), function, one, other, third, 1, zero, wrong, None)
            self.refuses(MANY, function, one, other, third, 1, zero, 10, None)
            self.refuses(MANY, function, one, other, third, 3, [[[0] * 27] * 2] * 2, 3, None)
            for wrong in (None, 0, [], [1] * 3, [1, 0, True, 0], "abcd"):
                self.refuses("BadRow", function, one, other, third, 1, zero, 2, wrong)
        # Words of one, of other, of third; words of pairs.
        self.refuses(MANY, beside_led, free_book(3, 9), one, free_book(3, 1), 1, [[[0]] * 2] * 9, 4, None)
        self.refuses(MANY, beside_led, one, shut_book(3, 9), free_book(3, 1), 1, [[[0]] * 9] * 2, 4, None)
        self.refuses("BadRow", beside_led, one, shut_book(3, 9), free_book(3, 1), 1, [[[0]] * 9] * 2, 3, None)
        self.refuses(MANY, cells_sent, one, other, free_book(3, 1), 1, [[[0]] * 2] * 2, 5, None)
        self.refuses("BadRow", cells_sent, one, other, free_book(3, 1), 1, [[[0]] * 2] * 2, 4, None)
        self.assertEqual(nothing_of(one, 2), [(0, 1, 2, 0)])
        self.assertEqual(Rules(3, 2, dark_of(one)), shadow(one))


if __name__ == "__main__":
    unittest.main()
