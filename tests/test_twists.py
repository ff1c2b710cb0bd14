import unittest

import plain
from asking import NO_BOOK, Asks, number
from keepsamples import all_tables, joined, kept_books, plain_keeps
from makingsamples import counts_of
from ruleshadows.books import Rules, exchange_book, free_book, minus_book, shut_book
from ruleshadows.ladders import first_lost, fits
from ruleshadows.shadows import shadow
from ruleshadows.twists import keeps, passed_book, turned_book
from samples import bent_book, chance_book, told, told_book

SWAP = [[0, 1], [1, 0]]


def short(letters):
    return {1: 7, 2: 6, 3: 4, 4: 4}[letters]


def second_led(book, row, table):
    letters = book.letters
    found = [0] * letters ** 2
    for at, x in enumerate(row):
        for b in range(letters):
            found[at // letters * letters + b] += x * table[at % letters][b]
    return found


class Twists(Asks, unittest.TestCase):
    def test_keeps_by_trying_all_tables(self):
        some = {True: 0, False: 0}
        for book in (bent_book(2), bent_book(3), exchange_book(3, 2), free_book(2, 2), shut_book(5, 1),
                     chance_book(3, 2, 2, 5), chance_book(2, 3, 2, 3), minus_book(2, 3)):
            for table in all_tables(book.prime, book.letters, book.letters):
                wanted = plain_keeps(book, table)
                some[wanted] += 1
                self.assertIs(keeps(book, table), wanted, (told(book), table))
        self.assertTrue(some[True] > 50 and some[False] > 50)

    def test_keeps_any_value(self):
        book = exchange_book(5, 2)
        self.assertIs(keeps(book, SWAP), True)
        self.assertIs(keeps(book, ((10, 6), (-4, 0))), True)
        for wrong in (None, 0, True, "ab", [], [[1, 0]], [[1, 0], [0]], [[1, 0], [0, 1], [1, 1]], [[1, 1], [1, 1]],
                      [[1, 0], [0, 5]], [[1, 0], [0, True]], [[1.0, 0], [0, 1]], {0: (1, 0), 1: (0, 1)}, [1, 0, 0, 1],
                      [[1, 0, 0], [0, 1, 0]], [{0, 1}, {0, 1}], [[0, 0], [0, 0]], [None, None]):
            self.assertIs(keeps(book, wrong), False, wrong)
        self.assertIs(keeps(told_book(5, 2, [{(0, 0): 1}]), SWAP), False)
        self.assertIs(keeps(told_book(5, 2, [{(0, 0): 1}]), [[3, 0], [1, 1]]), True)
        self.assertIs(keeps(shut_book(97, 9), [[int(a + b == 8) for a in range(9)] for b in range(9)]), True)

    def test_turned_books_by_their_own_words(self):
        for book, tables in kept_books():
            for table in tables:
                self.assertIs(keeps(book, table), True, (told(book), table))
                found = turned_book(book, table)
                self.assertEqual(len(found.rules), len(book.rules))
                for rule in found.rules:
                    self.assertTrue(plain.within(book.prime, book.rules, second_led(book, rule, table)), told(book))

    def test_example_by_hand(self):
        self.assertEqual(turned_book(exchange_book(5, 2), SWAP), told_book(5, 2, [{(0, 0): 1, (1, 1): -1}]))
        self.assertEqual(turned_book(exchange_book(5, 2), [[1, 0], [0, 1]]), exchange_book(5, 2))
        # a led to b, b to a plus b: aa + ba - bb becomes ab + bb - ba - bb.
        found = turned_book(exchange_book(5, 2), [[0, 1], [1, 1]])
        self.assertEqual(found, told_book(5, 2, [{(0, 0): 1, (1, 1): -1, (1, 0): 1}]))

    def test_heart_turned_books(self):
        some = {True: 0, False: 0}
        for book, tables in kept_books():
            most = short(book.letters)
            for table in tables:
                found = turned_book(book, table)
                self.assertEqual(counts_of(found, most), counts_of(book, most), (told(book), table))
                lost = first_lost(book, most)
                some[lost is None] += 1
                for length in range(4, most + 1):
                    self.assertIs(fits(found, length), lost is None or length < lost[0], (told(book), table))
                back = plain.transposed(plain.undone(book.prime, table))
                self.assertEqual(shadow(found), turned_book(shadow(book), back), (told(book), table))
        self.assertTrue(some[True] > 10 and some[False] > 5)

    def test_turned_twice(self):
        pairs = 0
        for book, tables in kept_books():
            for table in tables:
                for other in tables:
                    if joined(book.prime, table, other) == joined(book.prime, other, table):
                        once = turned_book(book, table)
                        self.assertIs(keeps(once, other), True)
                        both = turned_book(book, joined(book.prime, table, other))
                        self.assertEqual(turned_book(once, other), both, (told(book), table, other))
                        pairs += table != other
        self.assertGreater(pairs, 5)

    def test_passed_books_by_their_own_words(self):
        for book, tables in kept_books():
            x = book.letters
            for table in tables:
                rules = [{(at // x, at % x): value for at, value in enumerate(rule)} for rule in book.rules]
                rules += [{(x, v): 1, **{(u, x): -table[v][u] for u in range(x)}} for v in range(x)]
                self.assertEqual(passed_book(book, table), told_book(book.prime, x + 1, rules), told(book))

    def test_heart_passed_books(self):
        some = {True: 0, False: 0}
        for book, tables in kept_books():
            most, x = short(book.letters + 1) if book.letters < 4 else 3, book.letters
            for table in tables[-2:]:
                found = passed_book(book, table)
                counts = counts_of(book, most)
                self.assertEqual(counts_of(found, most), [sum(counts[:k + 1]) for k in range(most + 1)], told(book))
                lost = first_lost(book, most)
                some[lost is None] += 1
                for length in range(4, most + 1):
                    self.assertIs(fits(found, length), lost is None or length < lost[0], (told(book), table))
                rules = [{(at // x, at % x): value for at, value in enumerate(rule)} for rule in shadow(book).rules]
                rules.append({(x, x): 1})
                rules += [{(v, x): 1, **{(x, u): table[u][v] for u in range(x)}} for v in range(x)]
                self.assertEqual(shadow(found), told_book(book.prime, x + 1, rules), (told(book), table))
        self.assertTrue(some[True] > 10 and some[False] > 3)

    def test_passed_examples(self):
        self.assertEqual(passed_book(free_book(3, 1), [[1]]), exchange_book(3, 2))
        self.assertEqual(passed_book(exchange_book(3, 2), [[1, 0], [0, 1]]), exchange_book(3, 3))
        self.assertEqual(passed_book(exchange_book(3, 8), [[int(a == b) for a in range(8)] for b in range(8)]),
                         exchange_book(3, 9))
        self.assertEqual(passed_book(free_book(7, 1), [[10]]), told_book(7, 2, [{(1, 0): 1, (0, 1): -3}]))

    def test_wrong_inputs_in_sequence(self):
        for wrong in (None, 0, "x", [free_book(2, 1)]):
            for function in (keeps, turned_book, passed_book):
                self.refuses(NO_BOOK, function, wrong, None)
        for function in (turned_book, passed_book):
            for wrong in (None, 0, [], [[1, 0]], [[1, 0], [0, True]], [[1, 1], [1, 1]], [[0, 3], [1, 0]], SWAP):
                self.refuses("BadTable", function, told_book(3, 2, [{(0, 0): 1}]), wrong)
            self.refuses("BadTable", function, free_book(3, 9), [[1, 0], [0, 1]])
        plain_table = [[int(a == b) for a in range(9)] for b in range(9)]
        self.refuses(number("letters"), passed_book, free_book(3, 9), plain_table)
        self.refuses(number("letters"), passed_book, Rules(3, 9, [[1] * 81]), plain_table)
        self.assertEqual(turned_book(free_book(3, 9), plain_table), free_book(3, 9))


if __name__ == "__main__":
    unittest.main()
