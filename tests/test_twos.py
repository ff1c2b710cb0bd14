import itertools
import unittest

import plain
from asking import NO_BOOK, NUMBERS_NOT, Asks
from keepsamples import all_tables
from ruleshadows.books import Rules, book_led, exchange_book, free_book
from ruleshadows.checks import PRIMES
from ruleshadows.maps import keepers
from ruleshadows.rests import count
from ruleshadows.twos import kinds_of, rule_kind, rule_table
from samples import chance_row, chance_table, told
from twosamples import WRONG, all_twos, no_twos, some_twos, square_of, worth

BOOKS_NOT = (None, 0, "x", [free_book(2, 1)], (2, 1, ()))


def plain_kind(book):
    """The first of the kinds that is so, by their own words."""
    prime, square = book.prime, square_of(book)
    u, v = (square[0][1] - square[1][0]) % prime, worth(prime, square)
    if u == 0 and v == 0:
        return ("twice",)
    if v == 0:
        return ("behind",)
    if book == exchange_book(prime, 2):
        return ("exchange",)
    if u == 0:
        pairs = list(itertools.product(range(prime), repeat=2))[1:]
        return ("even", any(sum(square[a][b] * f[a] * f[b] for a in range(2) for b in range(2)) % prime == 0
                            for f in pairs))
    if (u * u - 4 * v) % prime == 0:
        return ("step",)
    return ("turn", next(t for t in range(prime) if (t * v - u * u) % prime == 0))


def tables_undone(prime):
    return [table for table in all_tables(prime, 2, 2) if plain.undone(prime, table)]


class Twos(Asks, unittest.TestCase):
    def same_kind(self, book, wanted):
        found = rule_kind(book)
        self.assertEqual(found, wanted, told(book))
        self.assertEqual([part.__class__ for part in found], [part.__class__ for part in wanted])

    def test_kinds_by_their_own_words(self):
        found = {}
        for prime in (2, 3, 5, 7):
            for book in all_twos(prime):
                wanted = plain_kind(book)
                found[wanted[0]] = found.get(wanted[0], 0) + 1
                self.same_kind(book, wanted)
        self.assertEqual(len(found), 6)
        for prime in (11, 97):
            for seed in range(12):
                book = Rules(prime, 2, [chance_row(4, prime, seed)])
                self.same_kind(book, plain_kind(book))

    def test_kinds_of_by_counting_all(self):
        for prime in (2, 3, 5, 7):
            many = {}
            for book in all_twos(prime):
                many[plain_kind(book)] = many.get(plain_kind(book), 0) + 1
            found = kinds_of(prime)
            self.assertEqual(found, sorted(many.items()))
            self.assertTrue(isinstance(found, list) and all(isinstance(pair, tuple) for pair in found))
            for kind, number in found:
                self.assertIsInstance(kind, tuple)
                self.assertEqual([part.__class__ for part in kind],
                                 [str] + ([bool] if kind[0] == "even" else [int] if kind[0] == "turn" else []))
                self.assertIs(number.__class__, int)

    def test_facts_of_kinds(self):
        for prime in PRIMES:
            found = kinds_of(prime)
            self.assertEqual(len(found), 5 if prime == 2 else prime + 4)
            self.assertEqual(sum(number for _, number in found), 1 + prime + prime ** 2 + prime ** 3)
            self.assertEqual(found, sorted(found))

    def test_example_by_hand(self):
        self.assertEqual(kinds_of(3), [(("behind",), 12), (("even", False), 3), (("even", True), 6), (("exchange",), 1),
                                       (("step",), 8), (("turn", 2), 6), (("twice",), 4)])
        for row, kind in (((0, 1, 96, 0), ("exchange",)), ((1, 2, 2, 4), ("twice",)), ((1, 3, 2, 6), ("behind",)),
                          ((0, 1, 1, 0), ("even", True)), ((1, 0, 0, 1), ("even", True)),
                          ((1, 0, 0, 92), ("even", False)), ((1, 1, 96, 0), ("step",)), ((0, 1, 95, 0), ("turn", 53))):
            self.same_kind(Rules(97, 2, [row]), kind)
        self.same_kind(exchange_book(2, 2), ("exchange",))

    def test_tables(self):
        some = {True: 0, False: 0}
        for prime, step in ((2, 1), (3, 1), (5, 6), (7, 17)):
            for one in all_twos(prime)[::step]:
                for other in all_twos(prime)[::step]:
                    some[self.check_table(one, other)] += 1
        self.assertTrue(some[True] > 200 and some[False] > 200, some)

    def check_table(self, one, other):
        """Whether there is a table, and just if both have one kind."""
        found = rule_table(one, other)
        self.assertIs(found is not None, plain_kind(one) == plain_kind(other), (told(one), told(other)))
        if found is not None:
            self.assertTrue(isinstance(found, tuple) and all(isinstance(row, tuple) for row in found))
            self.assertTrue(all(0 <= x < one.prime for row in found for x in row))
            self.assertIsNotNone(plain.undone(one.prime, found))
            self.assertEqual(book_led(one, found), other)
            self.assertEqual(rule_table(one, other), found)
        return found is not None

    def test_heart_by_trying_all_tables(self):
        for prime in (2, 3):
            tables = tables_undone(prime)
            for one in all_twos(prime):
                led = {book_led(one, table).rules for table in tables}
                for other in all_twos(prime):
                    self.assertIs(rule_table(one, other) is not None, other.rules in led, (told(one), told(other)))

    def test_tables_over_greater_primes(self):
        for prime in (53, 97):
            books = [Rules(prime, 2, [row]) for row in (
                (0, 1, -1, 0), (1, 2, 2, 4), (1, 3, 2, 6), (0, 1, 1, 0), (1, 0, 0, 1), (1, 0, 0, -5), (1, 1, -1, 0),
                (0, 1, -2, 0), (0, 0, 0, 1), (0, 1, 0, 0), (0, 0, 1, 0), (0, 1, 3, 1), (1, 1, 3, 0))]
            for seed, book in enumerate(books):
                self.assertTrue(self.check_table(book, book_led(book, chance_table(prime, 2, seed))))
                self.assertTrue(self.check_table(book_led(book, chance_table(prime, 2, seed + 30)), book))
                for other in books:
                    self.check_table(book, other)

    def test_fact_keepers(self):
        for prime in (2, 3, 5):
            many = len(tables_undone(prime))
            numbers = dict(kinds_of(prime))
            for book in all_twos(prime)[::1 if prime < 5 else 9]:
                self.assertEqual(len(keepers(book)) * numbers[plain_kind(book)], many, told(book))

    def test_fact_counts(self):
        for book in some_twos():
            counts = [count(book, length) for length in range(8)]
            wanted = [1, 2, 3, 5, 8, 13, 21, 34] if plain_kind(book) == ("twice",) else list(range(1, 9))
            self.assertEqual(counts, wanted, told(book))

    def test_wrong_inputs_in_sequence(self):
        right = exchange_book(3, 2)
        for wrong in BOOKS_NOT:
            self.refuses(NO_BOOK, rule_kind, wrong)
            self.refuses(NO_BOOK, rule_table, wrong, None)
            self.refuses(NO_BOOK, rule_table, right, wrong)
            self.refuses(NO_BOOK, rule_table, free_book(3, 9), wrong)
        for book in no_twos():
            self.refuses(WRONG, rule_kind, book)
            self.refuses(WRONG, rule_table, book, right)
            self.refuses(WRONG, rule_table, right, book)
            self.refuses(("BadBook", "prime"), rule_table, book, exchange_book(2, 2))
            self.refuses(("BadBook", "prime"), rule_table, exchange_book(2, 2), book)
        for wrong in NUMBERS_NOT + (0, 1, 4, 98, 101):
            self.refuses("BadPrime", kinds_of, wrong)


if __name__ == "__main__":
    unittest.main()
