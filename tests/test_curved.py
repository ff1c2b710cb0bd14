import unittest

import plain
from asking import MANY, NO_BOOK, NUMBERS_NOT, Asks, number
from lowersamples import chance_lowered, losing_example, moved_from, some_lowered, told_lowered
from ruleshadows.books import exchange_book, free_book, shut_book
from ruleshadows.curved import has_step, lowered_by, shadow_curve, shadow_slope, shadow_step
from ruleshadows.losses import loss
from ruleshadows.lowered import Lowered, unlowered
from ruleshadows.rests import nothing_room, rest, rest_words
from ruleshadows.shadows import shadow
from samples import chance_row, few_books, small_books, told, told_book
from test_longs import NO_LOWER


def telling(prime, row, rule):
    return sum(x * y for x, y in zip(row, rule)) % prime


def plain_step(lowered, length, row):
    """The step of a row, all words written out, with slopes that the package tells."""
    book = lowered.book
    letters, prime = book.letters, book.prime
    slopes = [shadow_slope(lowered, letter) for letter in range(letters)]
    found = [0] * letters ** (length + 1)
    every = plain.words(letters, length + 1)
    spots = {word: at for at, word in enumerate(every)}
    for x, word in zip(row, plain.words(letters, length)):
        for k, letter in enumerate(word):
            for y, pair in zip(slopes[letter], plain.words(letters, 2)):
                found[spots[word[:k] + pair + word[k + 1:]]] += (-1) ** k * x * y
    return plain.left(prime, shadow_room(book, length + 1), found)


ROOMS = {}


def shadow_room(book, length):
    """What is nothing in the shadow, by full rows; each room worked out once."""
    key = told(book) + (length,)
    if key not in ROOMS:
        ROOMS[key] = plain.nothing(book.prime, book.letters, shadow(book).rules, length)
    return ROOMS[key]


def plain_has_step(lowered):
    book = lowered.book
    letters, prime, dark = book.letters, book.prime, shadow(book)
    curve = shadow_curve(lowered)
    if any(any(plain_step(lowered, 2, rule)) for rule in dark.rules) or any(plain_step(lowered, 2, curve)):
        return False
    room = shadow_room(book, 3)
    for letter in plain.identity(letters):
        twice = plain_step(lowered, 2, plain_step(lowered, 1, letter))
        bent = [x - y for x, y in zip(plain.beside(prime, letter, curve), plain.beside(prime, curve, letter))]
        if twice != plain.left(prime, room, bent):
            return False
    return True


def longest(lowered):
    return {1: 5, 2: 4, 3: 3, 4: 2}[lowered.book.letters]


class Curved(Asks, unittest.TestCase):
    def test_curves_and_slopes_by_their_own_words(self):
        for lowered in some_lowered():
            book = lowered.book
            some = rest_words(shadow(book), 2)
            rows = [(shadow_curve(lowered), lowered.numbers)]
            for letter in range(book.letters):
                rows.append((shadow_slope(lowered, letter), [total[letter] for total in lowered.sums]))
            for row, wanted in rows:
                self.assertIsInstance(row, tuple)
                self.assertTrue(all(word in some or not x for x, word in zip(row, plain.words(book.letters, 2))))
                self.assertTrue(all(0 <= x < book.prime for x in row))
                self.assertEqual([telling(book.prime, row, rule) for rule in book.rules], list(wanted))

    def test_steps_by_the_plain_way(self):
        for lowered in some_lowered():
            for length in range(longest(lowered) + 1):
                row = chance_row(lowered.book.letters ** length, 2 * lowered.book.prime, length)
                found = shadow_step(lowered, length, row)
                self.assertIsInstance(found, tuple)
                self.assertEqual(found, plain_step(lowered, length, row), (told_lowered(lowered), length))

    def test_heart_a_step_exactly_if_nothing_is_lost_at_three_letters(self):
        some = {True: 0, False: 0}
        more = [chance_lowered(book, seed, 2 + seed % 4) for seed, book in enumerate(small_books())]
        for lowered in some_lowered() + more:
            found = has_step(lowered)
            some[found] += 1
            self.assertIs(found, loss(lowered, 3) == 0, told_lowered(lowered))
            self.assertIs(found, plain_has_step(lowered), told_lowered(lowered))
        self.assertTrue(some[True] > 20 and some[False] > 10)

    def test_facts_of_steps(self):
        for lowered in some_lowered():
            if not has_step(lowered):
                continue
            book, prime, letters = lowered.book, lowered.book.prime, lowered.book.letters
            dark, curve = shadow(book), shadow_curve(lowered)
            most = longest(lowered)
            for length in range(most + 1):
                row = chance_row(letters ** length, prime, length)
                step = shadow_step(lowered, length, row)
                for nothing in nothing_room(dark, length)[:3]:
                    same = [x + y for x, y in zip(row, nothing)]
                    self.assertEqual(shadow_step(lowered, length, same), step, told_lowered(lowered))
                if length < most:
                    twice = shadow_step(lowered, length + 1, step)
                    bent = [x - y for x, y in zip(plain.beside(prime, row, curve), plain.beside(prime, curve, row))]
                    self.assertEqual(twice, rest(dark, length + 2, bent), told_lowered(lowered))
                for first in range(length + 1):
                    one = chance_row(letters ** first, prime, 7)
                    other = chance_row(letters ** (length - first), prime, 8)
                    both = shadow_step(lowered, length, plain.beside(prime, one, other))
                    ahead = plain.beside(prime, shadow_step(lowered, first, one), other)
                    behind = plain.beside(prime, one, shadow_step(lowered, length - first, other))
                    wanted = [x + (-1) ** first * y for x, y in zip(ahead, behind)]
                    self.assertEqual(both, rest(dark, length + 1, wanted), told_lowered(lowered))

    def test_lowered_by(self):
        for lowered in some_lowered():
            book = lowered.book
            slopes = [shadow_slope(lowered, letter) for letter in range(book.letters)]
            self.assertEqual(lowered_by(book, slopes, shadow_curve(lowered)), lowered, told_lowered(lowered))
        for seed, book in enumerate(few_books()):
            size = book.letters ** 2
            slopes = [chance_row(size, 3 * book.prime, seed + k) for k in range(book.letters)]
            curve = chance_row(size, 3 * book.prime, seed + 20)
            found = lowered_by(book, slopes, curve)
            self.assertEqual(found, Lowered(
                book, [[telling(book.prime, slope, rule) for slope in slopes] for rule in book.rules],
                [telling(book.prime, curve, rule) for rule in book.rules]), told(book))
            dark = shadow(book)
            self.assertEqual(shadow_curve(found), rest(dark, 2, curve))
            self.assertEqual([shadow_slope(found, k) for k in range(book.letters)],
                             [rest(dark, 2, slope) for slope in slopes])

    def test_examples(self):
        # Of exchange_book ab less ba is 2 a + b + 1; the shadow has ab plus ba: 1 is told by less ba.
        lowered = Lowered(exchange_book(5, 2), [[2, 1]], [1])
        self.assertEqual(shadow_curve(lowered), (0, 0, 4, 0))
        self.assertEqual((shadow_slope(lowered, 0), shadow_slope(lowered, 1)), ((0, 0, 3, 0), (0, 0, 4, 0)))
        self.assertEqual(shadow_step(lowered, 0, [3]), (0, 0))
        self.assertEqual(shadow_step(lowered, 1, [1, 6]), (0, 0, 2, 0))
        self.assertIs(has_step(lowered), True)
        self.assertIs(has_step(losing_example(3)), True)
        self.assertIs(has_step(Lowered(told_book(5, 2, [{(0, 0): 1}]), [[0, 1]], [0])), False)
        one = Lowered(shut_book(7, 1), [[3]], [4])
        self.assertEqual((shadow_curve(one), shadow_slope(one, 0)), ((4,), (3,)))
        self.assertEqual([shadow_step(one, length, [1]) for length in range(5)], [(0,), (3,), (0,), (3,), (0,)])
        self.assertEqual(shadow_step(one, 201, [1]), (3,))
        self.assertEqual(shadow_curve(unlowered(free_book(7, 2))), (0, 0, 0, 0))
        self.assertIs(has_step(moved_from(exchange_book(97, 9), 2)), True)

    def test_only_part_of_a_step(self):
        # What is asked of rules of the shadow, of letters and of the curve is each asked by itself: all but one are so.
        found = {}
        for prime, letters, thin in ((2, 2, 1), (3, 2, 2), (2, 3, 3), (3, 3, 3)):
            for seed, book in enumerate(small_books()):
                if (book.prime, book.letters) == (prime, letters):
                    for more in range(8):
                        self.note_parts(chance_lowered(book, 10 * seed + more, thin), found)
        self.assertGreaterEqual(len(found), 3, found)

    def note_parts(self, lowered, found):
        book = lowered.book
        dark, curve = shadow(book), shadow_curve(lowered)
        rules = not any(any(shadow_step(lowered, 2, rule)) for rule in dark.rules)
        end = not any(shadow_step(lowered, 2, curve))
        letters = True
        for letter in plain.identity(book.letters):
            ahead, behind = plain.beside(book.prime, letter, curve), plain.beside(book.prime, curve, letter)
            bent = [x - y for x, y in zip(ahead, behind)]
            twice = shadow_step(lowered, 2, shadow_step(lowered, 1, letter))
            letters = letters and twice == rest(dark, 3, bent)
        found[(rules, letters, end)] = True
        self.assertIs(has_step(lowered), rules and letters and end)

    def test_wrong_inputs_in_sequence(self):
        lowered = unlowered(exchange_book(3, 2))
        for wrong in NO_LOWER:
            self.refuses("BadLower", shadow_curve, wrong)
            self.refuses("BadLower", shadow_slope, wrong, -1)
            self.refuses("BadLower", shadow_step, wrong, -1, None)
            self.refuses("BadLower", has_step, wrong)
        for wrong in NUMBERS_NOT + (-1, 2):
            self.refuses(number("letter"), shadow_slope, lowered, wrong)
        for wrong in NUMBERS_NOT + (-1,):
            self.refuses(number("length"), shadow_step, lowered, wrong, None)
        self.refuses(MANY, shadow_step, lowered, 9, None)
        self.refuses(MANY, shadow_step, lowered, 10 ** 12, None)
        for wrong in (None, [1, 2, 3], [1] * 8, [1, 2, 3, True], "abcd"):
            self.refuses("BadRow", shadow_step, lowered, 2, wrong)
        self.assertEqual(shadow_step(lowered, 8, [1] * 256), (0,) * 512)

    def test_wrong_slopes_in_sequence(self):
        book = exchange_book(3, 2)
        for wrong in (None, 0, "x", [book], unlowered(book)):
            self.refuses(NO_BOOK, lowered_by, wrong, None, None)
        for wrong in (None, 0, [], [[1] * 4], [[1] * 4] * 3, [[1] * 4, [1] * 3], [[1] * 4, [1, 2, 3, True]], [1] * 8,
                      "ab"):
            self.refuses("BadRow", lowered_by, book, wrong, [0] * 4)
        for wrong in (None, 0, [], [1] * 3, [1] * 5, [1, 2, 3, True], "abcd"):
            self.refuses("BadRow", lowered_by, book, [[1] * 4] * 2, wrong)


if __name__ == "__main__":
    unittest.main()
