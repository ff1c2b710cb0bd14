import unittest

import plain
from asking import NO_BOOK, Asks, number
from cellsamples import chance_cells, plainly_keep, plainly_sent
from keepsamples import joined
from restsamples import dark_of
from ruleshadows.bothsides import both_book, passing_table, two_determinants
from ruleshadows.books import Rules, exchange_book, free_book, minus_book, shut_book
from ruleshadows.keeping import cells_keep, keeping_book
from ruleshadows.rests import count, rest, rest_product
from ruleshadows.shadows import common_rules, shadow
from samples import bent_book, chance_book, few_books, told, told_book
from twosamples import WRONG, all_twos, no_twos, some_twos, square_of, worth

BOOKS_NOT = (None, 0, "x", [free_book(2, 1)], (2, 1, ()))


def few_letters():
    return [book for book in few_books() if book.letters < 4] + [
        exchange_book(2, 2), told_book(3, 2, [{(0, 0): 1, (1, 1): 1}]), told_book(5, 2, [{(0, 0): 1, (1, 1): 2}]),
        told_book(2, 2, [{(0, 1): 1, (1, 0): 1}, {(0, 0): 1, (1, 1): 1}]), chance_book(3, 3, 1, 3), bent_book(3)]


def plain_both(book):
    """The rules of the keeping book, and with turned pairs, word by word."""
    n = book.letters
    rules = []
    for rule in book.rules:
        for told_row in dark_of(book):
            one, other = {}, {}
            for x, (a, b) in zip(rule, plain.words(n, 2)):
                for y, (c, d) in zip(told_row, plain.words(n, 2)):
                    one[(a * n + c, b * n + d)] = x * y
                    other[(c * n + a, d * n + b)] = x * y
            rules += [one, other]
    return told_book(book.prime, n * n, rules)


def turned_over(cells):
    return [list(line) for line in zip(*cells)]


def both_cells(book, seed):
    """Cells in some books: chance ones, thin ones, the letters of both_book, and these with their pairs turned."""
    n, prime = book.letters, book.prime
    both = both_book(book)
    letters = [[list(plain.unit(n * n, a * n + c)) for c in range(n)] for a in range(n)]
    found = [(both, 1, letters), (keeping_book(book, book), 1, letters),
             (keeping_book(book, book), 1, turned_over(letters))]
    for length, third in ((0, free_book(prime, 1)), (1, shut_book(prime, 2)), (1, minus_book(prime, 2)),
                          (1, free_book(prime, 2)), (1, chance_book(prime, 2, 3, seed))):
        found += [(third, length, chance_cells(book, book, third, length, seed + k, 1 + k)) for k in range(3)]
    return found


class BothSides(Asks, unittest.TestCase):
    def test_word_by_word(self):
        for book in few_letters():
            found = both_book(book)
            self.assertIsInstance(found, Rules)
            self.assertEqual(found, plain_both(book), told(book))

    def test_facts(self):
        for book in few_letters():
            n, r = book.letters, len(book.rules)
            s = len(common_rules(book, shadow(book)).rules)
            self.assertEqual(len(both_book(book).rules), 2 * r * (n * n - r) - s * s, told(book))
            self.assertEqual(both_book(shadow(book)), both_book(book))

    def test_heart_cells_that_keep_from_both_sides(self):
        some = {True: 0, False: 0}
        for seed, book in enumerate(few_letters()):
            dark, rules = shadow(book), both_book(book).rules
            for third, length, cells in both_cells(book, seed):
                wanted = cells_keep(book, book, third, length, cells) and cells_keep(
                    book, book, third, length, turned_over(cells))
                some[wanted] += 1
                self.assertIs(cells_keep(book, book, third, length, cells)
                              and cells_keep(dark, dark, third, length, cells), wanted)
                found = all(not any(plainly_sent(book, book, third, length, cells, 2, rule)) for rule in rules)
                self.assertIs(found, wanted, (told(book), told(third), cells))
                if length < 2 and third.letters < 3:
                    self.assertIs(plainly_keep(book, book, third, length, cells)
                                  and plainly_keep(book, book, third, length, turned_over(cells)), wanted)
        self.assertTrue(some[True] > 60 and some[False] > 60, some)

    def test_determinants_by_their_own_words(self):
        for book in some_twos():
            both, rule = both_book(book), book.rules[0]
            found = two_determinants(book)
            self.assertTrue(isinstance(found, tuple) and len(found) == 2)
            for row in found:
                self.assertIsInstance(row, tuple)
                self.assertEqual(rest(both, 2, row), row)
            for at, (c, d) in enumerate(plain.words(2, 2)):
                ahead, behind = [0] * 16, [0] * 16
                for number_there, (a, b) in zip(rule, plain.words(2, 2)):
                    ahead[(a * 2 + c) * 4 + b * 2 + d] = number_there
                    behind[(c * 2 + a) * 4 + d * 2 + b] = number_there
                for row, wanted in zip((ahead, behind), found):
                    self.assertEqual(rest(both, 2, row), tuple(rule[at] * x % book.prime for x in wanted), told(book))

    def test_fact_equal_exactly_if_squares_add_up(self):
        some = {True: 0, False: 0}
        for book in some_twos():
            one, other = two_determinants(book)
            wanted = sum(x * x for x in book.rules[0]) % book.prime != 0
            some[wanted] += 1
            self.assertIs(one == other, wanted, told(book))
        self.assertTrue(some[True] > 30 and some[False] > 12, some)

    def test_passing_tables_by_their_own_words(self):
        some = 0
        for book in some_twos():
            prime, square = book.prime, square_of(book)
            if worth(prime, square) == 0:
                self.refuses(WRONG, passing_table, book)
                continue
            some += 1
            led = joined(prime, square, square)
            back = plain.undone(prime, led)
            found = passing_table(book)
            self.assertIsInstance(found, tuple)
            for a, c in plain.words(2, 2):
                row = found[a * 2 + c]
                self.assertIsInstance(row, tuple)
                self.assertEqual(row, tuple(led[a][b] * back[d][c] % prime for b, d in plain.words(2, 2)))
        self.assertGreater(some, 40)

    def test_heart_the_determinant_is_exchanged(self):
        moved = 0
        for book in some_twos():
            prime = book.prime
            if worth(prime, square_of(book)) == 0:
                continue
            both, table = both_book(book), passing_table(book)
            one, other = two_determinants(book)
            back = plain.transposed(plain.undone(prime, table))
            moved += table != tuple(plain.identity(4))
            for letter in range(4):
                ahead = plain.unit(4, letter)
                self.assertEqual(rest_product(both, 1, ahead, 2, one), rest_product(both, 2, other, 1, table[letter]))
                self.assertEqual(rest_product(both, 1, ahead, 2, other), rest_product(both, 2, one, 1, back[letter]))
        self.assertGreater(moved, 20)

    def test_heart_counts_of_three_letters(self):
        some = {24: 0, 20: 0, 18: 0}
        for book in some_twos() + all_twos(5)[3::7]:
            prime, square = book.prime, square_of(book)
            if worth(prime, square) == 0:
                continue
            led = joined(prime, square, square)
            made = joined(prime, led, plain.transposed(led))
            wanted = 18
            if made[0][1] == made[1][0] == 0 and made[0][0] == made[1][1]:
                wanted = 20
            if sum(x * x for x in book.rules[0]) % prime == 0:
                wanted = 24
            some[wanted] += 1
            self.assertEqual(count(both_book(book), 3), wanted, told(book))
        self.assertTrue(all(some[wanted] > 5 for wanted in some), some)

    def test_example_by_hand(self):
        book = Rules(5, 2, [[0, 1, 4, 0]])
        self.assertEqual(passing_table(book), tuple(plain.identity(4)))
        one, other = two_determinants(book)
        self.assertEqual(one, other)
        both = both_book(book)
        self.assertEqual(count(both, 3), 20)
        for letter in plain.identity(4):
            self.assertEqual(rest_product(both, 1, letter, 2, one), rest_product(both, 2, one, 1, letter))
        self.assertEqual(both_book(free_book(5, 3)), free_book(5, 9))
        self.assertEqual(both_book(shut_book(5, 1)), free_book(5, 1))
        self.assertEqual(len(both_book(exchange_book(5, 2)).rules), 6)

    def test_wrong_inputs_in_sequence(self):
        for function in (both_book, two_determinants, passing_table):
            for wrong in BOOKS_NOT:
                self.refuses(NO_BOOK, function, wrong)
        for letters in range(4, 10):
            self.refuses(number("letters"), both_book, free_book(3, letters))
        for book in no_twos() + [free_book(3, 9)]:
            self.refuses(WRONG, two_determinants, book)
            self.refuses(WRONG, passing_table, book)


if __name__ == "__main__":
    unittest.main()
