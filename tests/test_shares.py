import itertools
import unittest

import plain
from asking import NO_BOOK, NUMBERS_NOT, Asks, number
from makingsamples import counts_of, few_pairs
from ruleshadows.books import Rules, exchange_book, free_book, minus_book, shut_book
from ruleshadows.shadows import is_under, shadow
from ruleshadows.shares import kept_letters, left_out, shared_sides
from ruleshadows.sides import free_sides
from samples import bent_book, few_books, longest, small_books, told, told_book


def places_of(letters):
    return [places for size in range(1, letters + 1) for places in itertools.combinations(range(letters), size)]


def plain_kept(book, places):
    """The rules that are sums of words of these letters, renamed."""
    size = book.letters ** 2
    flat = [plain.unit(size, a * book.letters + b) for a in places for b in places]
    rows = plain.common(book.prime, book.rules, flat, size)
    return Rules(book.prime, len(places), [[row[a * book.letters + b] for a in places for b in places] for row in rows])


def overlapping():
    """Pairs of books that share letters, and how many."""
    found = []
    for book in small_books():
        if 2 <= book.letters <= 3:
            for many in range(1, book.letters):
                front = kept_letters(book, tuple(range(many)))
                found.append((free_sides(free_book(book.prime, 1), front), book, many))
                back = kept_letters(book, tuple(range(book.letters - many, book.letters)))
                found.append((book, free_sides(back, shut_book(book.prime, 1)), many))
    return found + [(book, book, book.letters) for book in few_books()]


class Shares(Asks, unittest.TestCase):
    def test_kept_and_left_by_the_plain_way(self):
        for book in small_books():
            for places in places_of(book.letters):
                self.assertEqual(kept_letters(book, places), plain_kept(book, places), (told(book), places))
                words = [word for word in plain.words(book.letters, 2) if set(word) <= set(places)]
                rows = [[row[plain.spot(book.letters, word)] for word in words] for row in book.rules]
                self.assertEqual(left_out(book, places), Rules(book.prime, len(places), rows), (told(book), places))

    def test_examples(self):
        book = told_book(5, 3, [{(0, 0): 1, (0, 2): 2}, {(2, 2): 1, (1, 1): 3}, {(2, 2): 1, (1, 1): 3, (2, 0): 1}])
        self.assertEqual(kept_letters(book, (0, 2)), told_book(5, 2, [{(0, 0): 1, (0, 1): 2}, {(1, 0): 1}]))
        self.assertEqual(left_out(book, (0, 2)),
                         told_book(5, 2, [{(0, 0): 1, (0, 1): 2}, {(1, 1): 1}, {(1, 0): 1}]))
        self.assertEqual(kept_letters(book, (1,)), free_book(5, 1))
        self.assertEqual(left_out(book, (1,)), shut_book(5, 1))
        self.assertEqual(left_out(exchange_book(3, 9), (1, 4, 8)), exchange_book(3, 3))
        self.assertEqual(kept_letters(exchange_book(3, 9), (1, 4, 8)), exchange_book(3, 3))
        self.assertEqual(kept_letters(minus_book(3, 9), tuple(range(9))), minus_book(3, 9))

    def test_heart_shadows(self):
        for book in small_books():
            for places in places_of(book.letters):
                where = (told(book), places)
                self.assertEqual(shadow(kept_letters(book, places)), left_out(shadow(book), places), where)
                self.assertEqual(shadow(left_out(book, places)), kept_letters(shadow(book), places), where)

    def test_facts(self):
        for book in small_books():
            for places in places_of(book.letters):
                kept, left = kept_letters(book, places), left_out(book, places)
                self.assertIs(is_under(left, kept), True)
                most = longest(book)
                self.assertTrue(all(x <= y for x, y in zip(counts_of(left, most), counts_of(kept, most))), told(book))

    def test_shared_sides_by_its_own_words(self):
        some = 0
        for one, other, many in overlapping():
            n, m = one.letters, other.letters
            found = shared_sides(one, other, many)
            some += 1
            start = n - many
            rules = [{(at // n, at % n): x for at, x in enumerate(row)} for row in one.rules]
            rules += [{(start + at // m, start + at % m): x for at, x in enumerate(row)} for row in other.rules]
            self.assertEqual(found, told_book(one.prime, n + m - many, rules))
            self.assertEqual(kept_letters(found, tuple(range(n))), one)
            self.assertEqual(kept_letters(found, tuple(range(start, n + m - many))), other)
        self.assertGreater(some, 50)

    def test_the_shadow_of_shared_sides(self):
        for one, other, many in overlapping():
            n, m = one.letters, other.letters
            letters = n + m - many
            found = shadow(shared_sides(one, other, many))
            # What is told 0 by all rules of one in its letters, and of other in its own.
            rows = []
            for book, start in ((one, 0), (other, n - many)):
                for rule in book.rules:
                    row = [0] * letters ** 2
                    for at, x in enumerate(rule):
                        row[(start + at // book.letters) * letters + start + at % book.letters] = x
                    rows.append(row)
            self.assertEqual(found.rules, tuple(plain.dark(one.prime, rows, letters ** 2)))
            for row in found.rules:
                front = [row[a * letters + b] for a in range(n) for b in range(n)]
                back = [row[a * letters + b] for a in range(letters - m, letters) for b in range(letters - m, letters)]
                self.assertTrue(plain.within(one.prime, shadow(one).rules, front))
                self.assertTrue(plain.within(one.prime, shadow(other).rules, back))

    def test_shared_examples(self):
        self.assertEqual(shared_sides(free_book(2, 2), free_book(2, 2), 1), free_book(2, 3))
        self.assertEqual(shared_sides(exchange_book(3, 9), exchange_book(3, 9), 9), exchange_book(3, 9))
        self.assertEqual(len(shared_sides(exchange_book(3, 5), exchange_book(3, 5), 1).rules), 20)
        for one, other in few_pairs():
            if one.letters == 1 and other.letters == 2:
                alike = kept_letters(other, (0,)) == one
                if alike:
                    self.assertEqual(shared_sides(one, other, 1), other)
                else:
                    self.refuses("NotAlike", shared_sides, one, other, 1)

    def test_wrong_places(self):
        for function in (kept_letters, left_out):
            for wrong in (None, 0, "x", [free_book(2, 1)]):
                self.refuses(NO_BOOK, function, wrong, None)
            for wrong in (None, 0, True, "0", (), [], [0], [0, 1], (0, 0), (1, 0), (3,), (-1,), (0, 3), (True,),
                          (0, True), (0.0,), ((0,),), (None,), {0: 1}, {0}):
                self.refuses(number("place"), function, free_book(2, 3), wrong)

    def test_wrong_sides_in_sequence(self):
        for wrong in (None, 0, "x", [free_book(2, 1)]):
            self.refuses(NO_BOOK, shared_sides, wrong, None, 0)
            self.refuses(NO_BOOK, shared_sides, free_book(2, 9), wrong, 0)
        self.refuses(("BadBook", "prime"), shared_sides, free_book(2, 9), free_book(3, 9), 0)
        for wrong in NUMBERS_NOT + (0, -1, 6, 9):
            self.refuses(number("many"), shared_sides, free_book(2, 9), free_book(2, 5), wrong)
        for many in (1, 2, 4):
            self.refuses(number("letters"), shared_sides, free_book(2, 9), shut_book(2, 5), many)
        self.refuses("NotAlike", shared_sides, free_book(2, 9), shut_book(2, 5), 5)
        self.refuses("NotAlike", shared_sides, free_book(2, 2), shut_book(2, 2), 1)
        self.refuses("NotAlike", shared_sides, bent_book(3), exchange_book(3, 2), 2)


if __name__ == "__main__":
    unittest.main()
