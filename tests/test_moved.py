import itertools
import unittest

import plain
from asking import MANY, NUMBERS_NOT, Asks
from lowersamples import (
    chance_lowered, longest_up_to, lowered_rules, moved_from, moved_plainly, some_lowered, spelled, told_lowered)
from ruleshadows.books import book_led, exchange_book, free_book, read_back, shut_book
from ruleshadows.longs import long_rules
from ruleshadows.losses import first_loss, loss
from ruleshadows.lowered import Lowered, unlowered
from ruleshadows.moved import least_lowered, lowered_led, lowered_moved, lowered_read_back
from samples import Numbers, bent_book, chance_table, told_book
from test_longs import NO_LOWER


def parts(lowered):
    return (lowered.sums, lowered.numbers)


def as_rooms(lowered):
    """The lowered rules, all sums of multiples of them, by their tidy list."""
    rows = [spelled(lowered.book.letters, 2, rule) for rule in lowered_rules(lowered)]
    return plain.gauss(lowered.book.prime, rows) if rows else []


def led_rules(lowered, table):
    """The lowered rules with all letters led, word by word."""
    letters, found = lowered.book.letters, []
    for rule in lowered_rules(lowered):
        told = {}
        for word, x in rule.items():
            for other in plain.words(letters, len(word)):
                times = x
                for a, b in zip(word, other):
                    times = times * table[a][b]
                told[other] = told.get(other, 0) + times
        found.append(spelled(letters, 2, told))
    return found


class Moved(Asks, unittest.TestCase):
    def same_losses(self, one, other):
        for length in range(longest_up_to(one) + 1):
            self.assertEqual(loss(other, length), loss(one, length), told_lowered(one))

    def test_moved_word_by_word(self):
        for seed, lowered in enumerate(some_lowered()):
            moves = Numbers(seed).row(lowered.book.letters, 3 * lowered.book.prime)
            found = lowered_moved(lowered, moves)
            self.assertEqual(found.book, lowered.book)
            self.assertEqual(parts(found), moved_plainly(lowered, moves), told_lowered(lowered))
            self.same_losses(lowered, found)
            self.assertEqual(lowered_moved(lowered, [0] * lowered.book.letters), lowered)

    def test_moved_twice(self):
        for seed, lowered in enumerate(some_lowered()):
            letters, prime = lowered.book.letters, lowered.book.prime
            one, other = Numbers(seed).row(letters, prime), Numbers(seed + 5).row(letters, prime)
            both = lowered_moved(lowered, [x + y for x, y in zip(one, other)])
            self.assertEqual(lowered_moved(lowered_moved(lowered, one), other), both, told_lowered(lowered))

    def test_moved_by_hand(self):
        # aa with a + 1 for a: aa + 2 a + 1 is nothing, so aa is less 2 a less 1.
        lowered = unlowered(told_book(5, 2, [{(0, 0): 1}]))
        self.assertEqual(parts(lowered_moved(lowered, [1, 0])), (((3, 0),), (4,)))
        self.assertEqual(lowered_moved(lowered, (0, 3)), lowered)
        # ab less ba is a + 2: with b + 1 for b it is so, too; with a + 1 for a it is a + 3.
        lowered = Lowered(exchange_book(5, 2), [[1, 0]], [2])
        self.assertEqual(lowered_moved(lowered, [0, 1]), lowered)
        self.assertEqual(parts(lowered_moved(lowered, [1, 0])), (((1, 0),), (3,)))
        for book in (bent_book(3), shut_book(7, 3), exchange_book(97, 4)):
            self.assertIsNone(first_loss(moved_from(book, 1), 4))

    def test_led_word_by_word(self):
        for seed, lowered in enumerate(some_lowered()):
            prime, letters = lowered.book.prime, lowered.book.letters
            table = chance_table(prime, letters, seed)
            found = lowered_led(lowered, table)
            self.assertEqual(found.book, book_led(lowered.book, table))
            rows = led_rules(lowered, table)
            self.assertEqual(as_rooms(found), plain.gauss(prime, rows) if rows else [], told_lowered(lowered))
            self.same_losses(lowered, found)
            self.assertEqual(lowered_led(found, plain.undone(prime, table)), lowered)

    def test_read_back_word_by_word(self):
        for lowered in some_lowered():
            found = lowered_read_back(lowered)
            letters, prime = lowered.book.letters, lowered.book.prime
            self.assertEqual(found.book, read_back(lowered.book))
            rows = [spelled(letters, 2, {word[::-1]: x for word, x in rule.items()}) for rule in lowered_rules(lowered)]
            self.assertEqual(as_rooms(found), plain.gauss(prime, rows) if rows else [], told_lowered(lowered))
            self.same_losses(lowered, found)
            self.assertEqual(lowered_read_back(found), lowered)

    def test_led_and_read_back_by_hand(self):
        lowered = Lowered(told_book(5, 2, [{(0, 1): 1}]), [[1, 0]], [3])
        self.assertEqual(lowered_led(lowered, [[0, 1], [1, 0]]), Lowered(told_book(5, 2, [{(1, 0): 1}]), [[0, 1]], [3]))
        # Letter 0 led to twice itself: twice 01 is twice the letter 0, and 3: it is 0 + 3 / 2.
        self.assertEqual(lowered_led(lowered, [[2, 0], [0, 1]]), Lowered(lowered.book, [[1, 0]], [4]))
        self.assertEqual(lowered_read_back(lowered), Lowered(told_book(5, 2, [{(1, 0): 1}]), [[1, 0]], [3]))
        turned = lowered_read_back(Lowered(exchange_book(5, 2), [[1, 2]], [3]))
        self.assertEqual(turned, Lowered(exchange_book(5, 2), [[4, 3]], [2]))
        self.assertEqual(lowered_read_back(unlowered(free_book(5, 9))), unlowered(free_book(5, 9)))

    def test_least_lowered_by_trying_all(self):
        for lowered in some_lowered():
            prime, letters = lowered.book.prime, lowered.book.letters
            if prime ** letters > 200:
                continue
            all_of_them = [moved_plainly(lowered, moves) for moves in itertools.product(range(prime), repeat=letters)]
            found = least_lowered(lowered)
            self.assertEqual(found.book, lowered.book)
            self.assertEqual(parts(found), min(all_of_them), told_lowered(lowered))
            for moves in ([1] * letters, Numbers(3).row(letters, prime)):
                self.assertEqual(least_lowered(lowered_moved(lowered, moves)), found)
            self.assertEqual(least_lowered(found), found)

    def test_fact_least_are_equal_exactly_if_one_is_moved_to_the_other(self):
        some = {True: 0, False: 0}
        for book in (exchange_book(2, 2), bent_book(3), told_book(3, 2, [{(0, 0): 1, (0, 1): 1}]), shut_book(5, 1)):
            tries = [chance_lowered(book, seed, 2) for seed in range(12)] + [unlowered(book), moved_from(book, 1)]
            for one in tries:
                for other in tries:
                    moves = itertools.product(range(book.prime), repeat=book.letters)
                    there = any(moved_plainly(one, move) == parts(other) for move in moves)
                    some[there] += 1
                    self.assertIs(least_lowered(one) == least_lowered(other), there)
        self.assertTrue(some[True] > 20 and some[False] > 20)

    def test_least_lowered_examples(self):
        for book in (bent_book(3), exchange_book(3, 3), shut_book(7, 2)):
            self.assertEqual(least_lowered(moved_from(book, 4)), unlowered(book))
        self.assertEqual(least_lowered(unlowered(free_book(31, 2))), unlowered(free_book(31, 2)))
        self.assertEqual(len(long_rules(least_lowered(chance_lowered(exchange_book(2, 9), 2)))), 36)

    def test_wrong_inputs_in_sequence(self):
        lowered = unlowered(exchange_book(3, 2))
        for wrong in NO_LOWER:
            self.refuses("BadLower", lowered_moved, wrong, None)
            self.refuses("BadLower", lowered_led, wrong, None)
            self.refuses("BadLower", lowered_read_back, wrong)
            self.refuses("BadLower", least_lowered, wrong)
        for wrong in NUMBERS_NOT + ([], [1, 2, 3], [1, True], "ab", {0: 1, 1: 1}):
            self.refuses("BadRow", lowered_moved, lowered, wrong)
        for wrong in (None, 0, [], [[1, 0]], [[1, 1], [1, 1]], [[1, 0], [0, 3]], [[1, 0], [0, True]], [1, 0, 0, 1],
                      "ab", [[1, 0, 0], [0, 1, 0], [0, 0, 1]]):
            self.refuses("BadTable", lowered_led, lowered, wrong)
        self.refuses(MANY, least_lowered, unlowered(free_book(3, 7)))
        self.refuses(MANY, least_lowered, unlowered(free_book(37, 2)))
        self.refuses(MANY, least_lowered, unlowered(free_book(97, 9)))


if __name__ == "__main__":
    unittest.main()
