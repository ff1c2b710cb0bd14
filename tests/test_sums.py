import itertools
import unittest

import plain
from asking import MANY, NUMBERS_NOT, Asks, number
from formsamples import bent_sum, some_sums
from keepsamples import all_tables, joined
from restsamples import count_of, dark_of, unit_of
from ruleshadows.books import Rules, book_led, exchange_book, free_book, shut_book
from ruleshadows.formfamilies import ring_sum, signed_sum
from ruleshadows.places import common_room
from ruleshadows.rests import count
from ruleshadows.rooms import is_within
from ruleshadows.shadows import shadow
from ruleshadows.sums import is_full, round_table, rules_from_right, rules_of_sum, turned_round
from samples import Numbers, chance_table, told_book


def by_words(letters, length, row):
    return {word: number for word, number in zip(plain.words(letters, length), row)}


def plainly_turned(prime, letters, length, row, table):
    """The first letter of each word led and put behind the others, word by word."""
    found = {}
    for word, number in by_words(letters, length, row).items():
        for b in range(letters):
            at = word[1:] + (b,)
            found[at] = found.get(at, 0) + number * table[word[0]][b]
    return tuple(found[word] % prime for word in plain.words(letters, length))


def plainly_full(prime, letters, length, row):
    return plain.rank(prime, [[by_words(letters, length, row)[(a,) + word] for word in plain.words(letters, length - 1)]
                              for a in range(letters)]) == letters


def round_sums():
    return [told for told in some_sums() if is_full(*told) and round_table(*told) is not None]


class Sums(Asks, unittest.TestCase):
    def test_rules_word_by_word(self):
        for prime, letters, length, row in some_sums():
            told = by_words(letters, length, row)
            pairs = plain.words(letters, 2)
            ahead = [[told[u + w] for w in pairs] for u in plain.words(letters, length - 2)]
            behind = [[told[w + u] for w in pairs] for u in plain.words(letters, length - 2)]
            self.assertEqual(rules_of_sum(prime, letters, length, row), Rules(prime, letters, ahead))
            self.assertEqual(rules_from_right(prime, letters, length, row), Rules(prime, letters, behind))

    def test_full_word_by_word(self):
        some = {True: 0, False: 0}
        more = [(prime, 2, 3, tuple(Numbers(seed).row(8, prime, 2))) for prime in (2, 3) for seed in range(12)]
        for told in some_sums() + more:
            found = is_full(*told)
            some[found] += 1
            self.assertIs(found, plainly_full(*told), told)
        self.assertTrue(some[True] > 10 and some[False] > 8, some)

    def test_turned_word_by_word(self):
        for seed, (prime, letters, length, row) in enumerate(some_sums()):
            table = Numbers(seed).rows(letters, letters, 3 * prime)
            found = turned_round(prime, letters, length, row, table)
            self.assertIsInstance(found, tuple)
            self.assertEqual(found, plainly_turned(prime, letters, length, row, table))
            # Turned once for each letter: all stand as before, all letters led.
            again = row
            for _ in range(length):
                again = turned_round(prime, letters, length, again, table)
            self.assertEqual(again, plain.led(prime, letters, length, row, table))

    def test_round_tables_by_trying_all(self):
        some = {True: 0, False: 0}
        for prime, letters, lengths in ((2, 2, (2, 3, 4)), (3, 2, (2, 3)), (5, 1, (2, 3)), (2, 3, (2,))):
            tables = all_tables(prime, letters, letters)
            for length in lengths:
                tries = list(itertools.product(range(prime), repeat=letters ** length))
                for row in tries[::max(1, len(tries) // 60)]:
                    if not is_full(prime, letters, length, row):
                        self.refuses("NotFull", round_table, prime, letters, length, row)
                        continue
                    there = [table for table in tables
                             if plainly_turned(prime, letters, length, row, table) == row]
                    found = round_table(prime, letters, length, row)
                    some[found is None] += 1
                    self.assertLessEqual(len(there), 1)
                    self.assertEqual([found] if found is not None else [], there, (prime, letters, length, row))
        self.assertTrue(some[True] > 20 and some[False] > 20, some)

    def test_round_sums_are_turned_to_themselves(self):
        self.assertGreater(len(round_sums()), 18)
        for prime, letters, length, row in round_sums():
            table = round_table(prime, letters, length, row)
            self.assertTrue(isinstance(table, tuple) and all(isinstance(line, tuple) for line in table))
            self.assertEqual(turned_round(prime, letters, length, row, table), row)

    def test_heart_of_round_sums(self):
        for prime, letters, length, row in round_sums():
            book = rules_of_sum(prime, letters, length, row)
            table = round_table(prime, letters, length, row)
            self.assertEqual(rules_from_right(prime, letters, length, row), book)
            self.assertTrue(is_within(prime, letters ** length, common_room(book, length), [row]))
            self.assertGreaterEqual(count(shadow(book), length), 1)
            self.assertIsNotNone(plain.undone(prime, table))
            self.assertEqual(book_led(book, table), book)
            self.assertEqual(plain.led(prime, letters, length, row, table), row)
            if letters ** length < 100:
                dark = Rules(prime, letters, dark_of(book))
                self.assertGreaterEqual(count_of(dark, length), 1)

    def test_facts_of_sums_that_are_led(self):
        for seed, (prime, letters, length, row) in enumerate(some_sums()):
            if letters ** length > 100:
                continue
            table = chance_table(prime, letters, seed)
            led = plain.led(prime, letters, length, row, table)
            self.assertEqual(rules_of_sum(prime, letters, length, led),
                             book_led(rules_of_sum(prime, letters, length, row), table))
            self.assertIs(is_full(prime, letters, length, led), is_full(prime, letters, length, row))
            if is_full(prime, letters, length, row):
                found, before = round_table(prime, letters, length, led), round_table(prime, letters, length, row)
                wanted = before and joined(prime, joined(prime, plain.undone(prime, table), before), table)
                self.assertEqual(found, wanted, (prime, letters, length, row))

    def test_fact_signed_sums(self):
        for prime in (2, 3, 97):
            for letters in (2, 3, 4):
                row = signed_sum(prime, letters)
                self.assertEqual(rules_of_sum(prime, letters, letters, row), exchange_book(prime, letters))
                sign = 1 if letters & 1 else -1
                wanted = tuple(tuple(sign * x % prime for x in line) for line in plain.identity(letters))
                self.assertEqual(round_table(prime, letters, letters, row), wanted)

    def test_by_hand(self):
        # Of aab plus aba plus baa: a leaves ab + ba, b leaves aa.
        row = [0, 1, 1, 0, 1, 0, 0, 0]
        self.assertEqual(rules_of_sum(3, 2, 3, row), told_book(3, 2, [{(0, 0): 1}, {(0, 1): 1, (1, 0): 1}]))
        self.assertEqual(round_table(3, 2, 3, row), ((1, 0), (0, 1)))
        # abb alone: a leaves bb, b leaves nothing; from the right b leaves ab.
        row = unit_of(2, (0, 1, 1))
        self.assertEqual(rules_of_sum(3, 2, 3, row), told_book(3, 2, [{(1, 1): 1}]))
        self.assertEqual(rules_from_right(3, 2, 3, row), told_book(3, 2, [{(0, 1): 1}]))
        self.assertIs(is_full(3, 2, 3, row), False)
        self.assertEqual(turned_round(3, 2, 3, row, [[4, 2], [9, 9]]), (0, 0, 0, 0, 0, 0, 1, 2))
        # Full, but not round: a leaves ab, b leaves aa: aab and baa, and no aba.
        row = [0, 1, 0, 0, 1, 0, 0, 0]
        self.assertIs(is_full(3, 2, 3, row), True)
        self.assertIsNone(round_table(3, 2, 3, row))
        self.assertEqual(rules_of_sum(5, 3, 2, [0] * 9), free_book(5, 3))
        self.assertEqual(rules_of_sum(5, 1, 900, [10]), free_book(5, 1))
        self.assertEqual(rules_from_right(5, 1, 900, [11]), shut_book(5, 1))
        self.assertEqual(round_table(5, 1, 900, [12]), ((1,),))
        self.assertEqual(turned_round(5, 1, 900, [12], [[3]]), (1,))
        # 01 less twice 10, turned round: 1 beside what 0 is led to is less twice 10, so 0 goes to less twice itself.
        self.assertEqual(round_table(5, 2, 2, [0, 1, -2, 0]), ((3, 0), (0, 2)))
        self.assertEqual(round_table(*bent_sum(5)), ((1, 0, 0), (0, 1, 0), (0, 0, 1)))
        self.assertEqual(round_table(5, 3, 3, ring_sum(5, 6, 7, 5)), ((1, 0, 0), (0, 1, 0), (0, 0, 1)))

    def test_wrong_inputs_in_sequence(self):
        for function, more in ((rules_of_sum, ()), (rules_from_right, ()), (is_full, ()), (round_table, ()),
                               (turned_round, (None,))):
            for wrong in NUMBERS_NOT + (0, 1, 4, 98, 101):
                self.refuses("BadPrime", function, wrong, None, None, None, *more)
            for wrong in NUMBERS_NOT + (0, 10, -1):
                self.refuses(number("letters"), function, 3, wrong, None, None, *more)
            for wrong in NUMBERS_NOT + (0, 1, -2):
                self.refuses(number("length"), function, 3, 2, wrong, None, *more)
            self.refuses(MANY, function, 3, 2, 10, None, *more)
            self.refuses(MANY, function, 3, 9, 4, None, *more)
            for wrong in (None, 0, [], [1] * 3, [1] * 5, [1, 0, 0, True], [[1], 0, 0, 0], "abcd", {0: 0}):
                self.refuses("BadRow", function, 3, 2, 2, wrong, *more)
        for wrong in (None, 0, [], [[1, 0]], [[1, 0], [0, True]], [1, 0, 0, 1], [[1, 0, 0], [0, 1, 0], [0, 0, 1]]):
            self.refuses("BadTable", turned_round, 3, 2, 2, [1, 0, 0, 1], wrong)
        self.refuses("NotFull", round_table, 3, 2, 2, [1, 2, 2, 4])
        self.refuses("NotFull", round_table, 3, 2, 2, [0, 0, 0, 0])


if __name__ == "__main__":
    unittest.main()
