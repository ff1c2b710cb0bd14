import unittest

from asking import MANY, NUMBERS_NOT, Asks, number
from ruleshadows.ladders import fits
from ruleshadows.rests import count
from ruleshadows.series import fraction, unrolled
from ruleshadows.settled import is_tidy
from ruleshadows.shadows import shadow
from ruleshadows.trials import first_tidy
from ruleshadows.weblots import first_straight, is_straight, shut_fraction, web_fraction
from ruleshadows.webs import shut_web, web_book, web_lots
from samples import longest
from test_orders import WRONG_ORDERS, orders
from test_series import least_below, negated
from websamples import RING, WRONG_LINES, WRONG_NOTHINGS, linked, pairs_of, webs

MOST = 30


def times(one, other):
    return [sum(one[i] * other[k - i] for i in range(k + 1)) for k in range(MOST)]


def lot_series(letters, lines, special, ordinary):
    """The sum over the lots of the products of what each letter stands for, power by power."""
    total = [0] * MOST
    for lot in web_lots(letters, lines):
        made = [1] + [0] * (MOST - 1)
        for letter in lot:
            made = times(made, ordinary[letter in special])
        total = [x + y for x, y in zip(total, made)]
    return total


def upside_down(numbers):
    """The series whose product with this one is 1."""
    found = []
    for k in range(MOST):
        found.append(int(k == 0) - sum(numbers[i] * found[k - i] for i in range(1, k + 1)))
    return found


T = [0, 1] + [0] * (MOST - 2)
ALTERNATING = [0] + [(-1) ** k for k in range(MOST - 1)]
ONES = [0] + [1] * (MOST - 1)


def plain_straight(lines, order):
    letters = len(order)
    return all(linked(lines, order[i], order[k])
               for i in range(letters) for j in range(i + 1, letters) for k in range(j + 1, letters)
               if linked(lines, order[i], order[j]) and linked(lines, order[j], order[k]))


class WebLots(Asks, unittest.TestCase):
    def is_least(self, found, numbers):
        over, below = found
        self.assertTrue(isinstance(found, tuple) and isinstance(over, tuple) and isinstance(below, tuple))
        self.assertEqual((over[0], below[0]), (1, 1))
        self.assertTrue(over[-1] and below[-1])
        self.assertEqual(unrolled(over, below, MOST - 1), numbers)
        self.assertEqual(least_below(numbers), max(len(below) - 1, len(over)), found)

    def test_heart_counts_by_the_lots(self):
        for prime, letters, lines, nothings in webs():
            most = longest(web_book(2, letters, [], [])) + 1 if letters < 4 else 4
            found = web_fraction(letters, lines, nothings)
            book = web_book(prime, letters, lines, nothings)
            self.assertEqual(unrolled(*found, most), [count(book, k) for k in range(most + 1)], (letters, lines))
            signed = [[-x for x in T], [-x for x in ALTERNATING]]
            self.is_least(found, upside_down(lot_series(letters, lines, nothings, signed)))
            found = shut_fraction(letters, lines, nothings)
            book = shut_web(prime, letters, lines, nothings)
            self.assertEqual(unrolled(*found, most), [count(book, k) for k in range(most + 1)], (letters, lines))
            self.is_least(found, lot_series(letters, lines, nothings, [ONES, T]))

    def test_examples(self):
        every = [[a, b, 0] for a, b in pairs_of(3)]
        self.assertEqual(web_fraction(3, every, []), ((1,), (1, -3, 3, -1)))
        self.assertEqual(web_fraction(3, every, [0, 1, 2]), ((1, 3, 3, 1), (1,)))
        self.assertEqual(shut_fraction(3, every, [1]), ((1, 1), (1, -2, 1)))
        self.assertEqual(web_fraction(3, [], []), ((1,), (1, -3)))
        self.assertEqual(shut_fraction(3, [], [0, 1, 2]), ((1, 3), (1,)))
        self.assertEqual(shut_fraction(2, [], []), ((1, 1), (1, -1)))
        self.assertEqual(web_fraction(1, [], [0]), ((1, 1), (1,)))
        self.assertEqual(web_fraction(5, RING, []), ((1,), (1, -5, 5)))
        self.assertEqual(web_fraction(2, [], [0]), ((1, 1), (1, -1, -1)))
        nine = [[a, b, 1] for a, b in pairs_of(9)]
        self.assertEqual(web_fraction(9, nine, list(range(9)))[0][:3], (1, 9, 36))
        self.assertEqual(len(shut_fraction(9, nine, [])[1]), 10)

    def test_the_weights_are_not_looked_at(self):
        for _, letters, lines, nothings in webs():
            others = [[a, b, weight * (a + b) - 7] for a, b, weight in lines]
            for function in (web_fraction, shut_fraction):
                self.assertEqual(function(letters, others, nothings), function(letters, lines, nothings))
            self.assertEqual(first_straight(letters, others), first_straight(letters, lines))

    def test_heart_shadows(self):
        for prime, letters, lines, nothings in webs():
            back = [[a, b, next(v for v in range(1, prime) if (w * v + 1) % prime == 0)] for a, b, w in lines]
            others = [a for a in range(letters) if a not in nothings]
            self.assertEqual(shadow(web_book(prime, letters, lines, nothings)), shut_web(prime, letters, back, others))
            over, below = web_fraction(letters, lines, nothings)
            self.assertEqual(shut_fraction(letters, lines, others), (negated(below), negated(over)))

    def test_straight_by_its_own_words(self):
        some = {True: 0, False: 0}
        for _, letters, lines, _ in webs():
            found = []
            for order in orders(letters):
                wanted = plain_straight(lines, order)
                some[wanted] += 1
                self.assertIs(is_straight(letters, lines, order), wanted)
                self.assertIs(is_straight(letters, tuple(lines), tuple(order)), wanted)
                found += [tuple(order)] * wanted
            self.assertEqual(first_straight(letters, lines), found[0] if found else None)
        self.assertTrue(some[True] > 20 and some[False] > 20)

    def test_heart_tidy_exactly_if_straight(self):
        for prime, letters, lines, nothings in webs():
            for order in orders(letters)[:: 1 if letters < 4 else 5]:
                straight = is_straight(letters, lines, order)
                for function in (web_book, shut_web):
                    book = function(prime, letters, lines, nothings)
                    self.assertIs(is_tidy(book, order), straight, (prime, lines, nothings, order))
                    if straight and function is web_book:
                        self.assertEqual(fraction(book, order), web_fraction(letters, lines, nothings))
                    elif straight:
                        self.assertEqual(fraction(book, order), shut_fraction(letters, lines, nothings))
            self.assertEqual(first_straight(letters, lines), first_tidy(web_book(prime, letters, lines, nothings)))

    def test_the_ring_of_five_letters(self):
        self.assertIsNone(first_straight(5, RING))
        self.assertFalse(any(is_straight(5, RING, order) for order in orders(5)))
        for nothings in ([], [0], [0, 1, 2, 3, 4]):
            self.assertIs(fits(web_book(3, 5, RING, nothings), 4), True)
            self.assertIs(fits(shut_web(3, 5, RING, nothings), 4), True)
            self.assertIsNone(first_tidy(shut_web(3, 5, RING, nothings)))

    def test_greater_webs(self):
        self.assertEqual(first_straight(6, []), (0, 1, 2, 3, 4, 5))
        self.assertEqual(first_straight(6, [[a, b, 1] for a, b in pairs_of(6)]), (0, 1, 2, 3, 4, 5))
        self.assertEqual(first_straight(6, [[0, 1, 1], [1, 5, 1]]), (0, 2, 3, 4, 5, 1))
        self.assertIsNone(first_straight(6, RING))
        path = [[k, k + 1, 1] for k in range(8)]
        self.assertIs(is_straight(9, path, list(range(9))), False)
        self.assertIs(is_straight(9, path, [0, 2, 4, 6, 8, 1, 3, 5, 7]), True)
        over, below = web_fraction(9, path, [])
        self.assertEqual((over, below), ((1,), (1, -9, 8)))
        self.assertEqual(unrolled(over, below, 3)[3], count(web_book(2, 9, path, []), 3))

    def test_wrong_inputs_in_sequence(self):
        for function in (web_fraction, shut_fraction):
            for wrong in NUMBERS_NOT + (0, 10):
                self.refuses(number("letters"), function, wrong, None, None)
            for wrong in WRONG_LINES:
                self.refuses("BadWeb", function, 3, wrong, [])
            for wrong in WRONG_NOTHINGS:
                self.refuses("BadWeb", function, 3, [[0, 1, 1]], wrong)
        for wrong in NUMBERS_NOT + (0, 10):
            self.refuses(number("letters"), is_straight, wrong, None, None)
            self.refuses(number("letters"), first_straight, wrong, None)
        for wrong in WRONG_LINES:
            self.refuses("BadWeb", is_straight, 3, wrong, None)
            self.refuses("BadWeb", first_straight, 3, wrong)
        for wrong in WRONG_ORDERS:
            self.refuses("BadOrder", is_straight, 2, [[0, 1, 1]], wrong)
        self.refuses("BadWeb", first_straight, 7, [[0, 1]])
        for letters in (7, 9):
            self.refuses(MANY, first_straight, letters, [])


if __name__ == "__main__":
    unittest.main()
