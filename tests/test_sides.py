import unittest

from asking import NO_BOOK, NUMBERS_NOT, Asks, number
from makingsamples import all_books, counts_of, few_pairs, led_from, short, undone_counts
from ruleshadows.books import exchange_book, free_book, minus_book, shut_book
from ruleshadows.ladders import first_lost, fits
from ruleshadows.rests import count
from ruleshadows.shadows import shadow
from ruleshadows.sides import ahead_sides, behind_sides, free_sides, shut_sides, sides_told, weighed_sides
from samples import bent_book, chance_book, heart_book, small_books, told, told_book

MAKINGS = {"free": free_sides, "shut": shut_sides, "ahead": ahead_sides, "behind": behind_sides}


def made(one, other, way):
    if way in MAKINGS:
        return MAKINGS[way](one, other)
    return weighed_sides(one, other, way)


def ways(prime):
    return ["free", "shut", "ahead", "behind"] + sorted({1, prime - 1, prime // 2 or 1})


def mixed_rules(way, v, w):
    return {"free": [], "shut": [{(v, w): 1}, {(w, v): 1}], "ahead": [{(w, v): 1}], "behind": [{(v, w): 1}]}.get(
        way, [{(w, v): 1, (v, w): -way if not isinstance(way, str) else 0}])


class Sides(Asks, unittest.TestCase):
    def test_rules(self):
        for one, other in few_pairs():
            n, letters = one.letters, one.letters + other.letters
            for way in ways(one.prime):
                rules = led_from(one, letters, range(n)) + led_from(other, letters, range(n, letters))
                for v in range(n):
                    for w in range(n, letters):
                        rules += mixed_rules(way, v, w)
                self.assertEqual(made(one, other, way), told_book(one.prime, letters, rules), (told(one), way))

    def test_example_by_hand(self):
        for prime in (2, 3, 97):
            one = free_book(prime, 1)
            self.assertEqual(counts_of(free_sides(one, one), 6), [2 ** d for d in range(7)])
            self.assertEqual(weighed_sides(one, one, 1), exchange_book(prime, 2))
            self.assertEqual(counts_of(weighed_sides(one, one, 1), 6), [d + 1 for d in range(7)])
            both = shut_sides(one, one)
            self.assertEqual(counts_of(both, 6), [1, 2, 2, 2, 2, 2, 2])
            self.assertEqual(shadow(both), free_sides(shut_book(prime, 1), shut_book(prime, 1)))
            self.assertEqual(counts_of(shadow(both), 6), [1, 2, 2, 2, 2, 2, 2])
        self.assertEqual(weighed_sides(exchange_book(5, 2), exchange_book(5, 7), 6), exchange_book(5, 9))
        self.assertEqual(weighed_sides(minus_book(5, 4), minus_book(5, 5), -1), minus_book(5, 9))
        self.assertEqual(ahead_sides(free_book(3, 1), free_book(3, 1)), told_book(3, 2, [{(1, 0): 1}]))
        self.assertEqual(behind_sides(free_book(3, 1), free_book(3, 1)), told_book(3, 2, [{(0, 1): 1}]))

    def test_heart_counts(self):
        for one, other in few_pairs():
            most = short(one.letters + other.letters)
            a, b = counts_of(one, most), counts_of(other, most)
            for way in ways(one.prime):
                found = counts_of(made(one, other, way), most)
                if way == "shut":
                    wanted = [1] + [a[d] + b[d] for d in range(1, most + 1)]
                elif way == "free":
                    u, w = undone_counts(a), undone_counts(b)
                    wanted = undone_counts([1] + [u[d] + w[d] for d in range(1, most + 1)])
                else:
                    wanted = [sum(a[i] * b[d - i] for i in range(d + 1)) for d in range(most + 1)]
                self.assertEqual(found, wanted, (told(one), told(other), way))

    def test_heart_shadows(self):
        for one, other in few_pairs():
            dark, other_dark = shadow(one), shadow(other)
            self.assertEqual(shadow(free_sides(one, other)), shut_sides(dark, other_dark))
            self.assertEqual(shadow(shut_sides(one, other)), free_sides(dark, other_dark))
            self.assertEqual(shadow(ahead_sides(one, other)), behind_sides(dark, other_dark))
            self.assertEqual(shadow(behind_sides(one, other)), ahead_sides(dark, other_dark))
            for weight in range(1, min(one.prime, 8)):
                back = next(k for k in range(1, one.prime) if (k * weight + 1) % one.prime == 0)
                self.assertEqual(shadow(weighed_sides(one, other, weight)), weighed_sides(dark, other_dark, back))

    def test_heart_each_fits_exactly_if_both_do(self):
        pairs = few_pairs() + [(bent_book(7), bent_book(7)), (chance_book(3, 2, 2, 2), bent_book(3))]
        some = {True: 0, False: 0}
        for one, other in pairs:
            most = 5 if one.letters + other.letters < 4 else 4
            both = fits(one, most) and fits(other, most)
            some[both] += 1
            for way in ways(one.prime):
                self.assertIs(fits(made(one, other, way), most), both, (told(one), told(other), way))
        self.assertTrue(some[True] > 4 and some[False] > 3)
        # What is lost in length 5 alone: up to 4 it fits, up to 5 not.
        for way in ("free", "behind", 1):
            self.assertEqual(first_lost(made(heart_book(2, 1, 1), shut_book(2, 1), way), 4), None)
            self.assertEqual(first_lost(made(shut_book(2, 1), heart_book(2, 1, 1), "shut"), 4), None)
        self.assertIs(fits(ahead_sides(heart_book(2, 1, 1), free_book(2, 1)), 4), True)

    def test_sides_told(self):
        for one, other in few_pairs():
            for way in ways(one.prime):
                self.check_told(made(one, other, way), one.letters, (way, one, other))

    def check_told(self, book, many, wanted):
        found = sides_told(book, many)
        self.assertIsInstance(found, tuple)
        self.assertEqual(found, wanted, told(book))
        self.assertIs(found[0].__class__, wanted[0].__class__)

    def test_sides_told_by_trying_all(self):
        for prime in (2, 3):
            tries = all_books(prime, 1) + all_books(prime, 2)
            for book in [other for other in small_books() if other.prime == prime and other.letters in (2, 3)]:
                for many in range(1, book.letters):
                    found = sides_told(book, many)
                    there = [(way, one, other) for one in tries for other in tries for way in ways(prime)
                             if one.letters == many and other.letters == book.letters - many
                             and made(one, other, way) == book]
                    self.assertLessEqual(len(there), 1)
                    if there:
                        self.assertEqual(found, there[0])
                    if found is not None:
                        self.assertEqual(made(found[1], found[2], found[0]), book)
                        self.assertEqual((found[1].letters, found[2].letters), (many, book.letters - many))

    def test_sides_told_examples(self):
        self.assertEqual(sides_told(exchange_book(7, 4), 3), (1, exchange_book(7, 3), exchange_book(7, 1)))
        self.assertEqual(sides_told(minus_book(7, 4), 1), (6, minus_book(7, 1), minus_book(7, 3)))
        self.assertEqual(sides_told(minus_book(2, 4), 1), (1, minus_book(2, 1), minus_book(2, 3)))
        self.assertEqual(sides_told(free_book(7, 9), 8), ("free", free_book(7, 8), free_book(7, 1)))
        self.assertEqual(sides_told(shut_book(7, 9), 1), ("shut", shut_book(7, 1), shut_book(7, 8)))
        self.assertIsNone(sides_told(bent_book(3), 1))
        # Mixed words and others in one rule; two weights; some mixed rules missing.
        for rules in ([{(0, 0): 1, (1, 2): 1}], [{(2, 0): 1, (0, 2): -1}, {(2, 1): 1, (1, 2): -2}],
                      [{(2, 0): 1}], [{(2, 0): 1, (0, 2): -1}], [{(2, 0): 1, (1, 2): -1}, {(2, 1): 1, (0, 2): -1}],
                      [{(2, 0): 1, (0, 2): -1}, {(2, 1): 1, (1, 2): -1}, {(0, 0): 1, (2, 2): 1}]):
            self.assertIsNone(sides_told(told_book(5, 3, rules), 2), rules)
        self.assertEqual(count(weighed_sides(free_book(97, 4), free_book(97, 5), 96), 2), 16 + 25 + 20)

    def test_wrong_inputs_in_sequence(self):
        for way, function in list(MAKINGS.items()) + [("weighed", weighed_sides)]:
            more = () if way in MAKINGS else (0,)
            for wrong in (None, 0, "x", [free_book(2, 1)]):
                self.refuses(NO_BOOK, function, wrong, None, *more)
                self.refuses(NO_BOOK, function, free_book(2, 9), wrong, *more)
            self.refuses(("BadBook", "prime"), function, free_book(2, 9), free_book(3, 9), *more)
            self.refuses(number("letters"), function, free_book(3, 9), free_book(3, 1), *more)
            self.refuses(number("letters"), function, free_book(3, 4), free_book(3, 6), *more)
        for wrong in NUMBERS_NOT + (0, 3, -6):
            self.refuses(number("weight"), weighed_sides, free_book(3, 1), free_book(3, 2), wrong)
        self.assertEqual(weighed_sides(free_book(3, 1), free_book(3, 2), -1),
                         weighed_sides(free_book(3, 1), free_book(3, 2), 5))
        for wrong in (None, 0, "x", [free_book(2, 1)]):
            self.refuses(NO_BOOK, sides_told, wrong, 0)
        for wrong in NUMBERS_NOT + (0, 3, -1):
            self.refuses(number("many"), sides_told, free_book(2, 3), wrong)
        self.refuses(number("many"), sides_told, free_book(2, 1), 1)


if __name__ == "__main__":
    unittest.main()
