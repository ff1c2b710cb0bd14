import unittest

import plain
from asking import Asks
from ruleshadows.books import Rules, exchange_book, free_book, minus_book, shut_book
from ruleshadows.follows import count_long, follows
from ruleshadows.growths import growth
from ruleshadows.orders import plain_words, word_book
from ruleshadows.rests import count
from ruleshadows.shadows import shadow
from samples import Numbers, bent_book, told, told_book
from test_orders import wrong_orders
from tidysamples import tidy_pairs


def flag_books():
    """Books of words of many shapes: chains, rings, rings one behind the other, and as if by chance."""
    found = []
    for letters in (1, 2, 3, 4, 5):
        every = plain.words(letters, 2)
        for seed in range(14):
            numbers = Numbers(seed + 13 * letters)
            kept = [word for word in every if numbers.below(2 + seed % 3) == 0]
            if seed % 2:
                kept = [(a, b) for a, b in kept if a <= b or numbers.below(4) == 0]
            found.append(word_book((2, 3, 97)[seed % 3], letters, [word for word in every if word not in kept]))
    return found


def ring_words(book, order, letters):
    """How many plain words of so many letters begin and end with each letter."""
    found = [0] * book.letters
    for word in plain_words(book, order, letters):
        if word[0] == word[-1]:
            found[word[0]] += 1
    return found


def longest_sequence(book, order):
    """The greatest sequence of the document: its letters come back, and lead to the next one, never back."""
    square = follows(book, order)
    reach = [[any(steps[a][b] for steps in powers(square)) for b in range(book.letters)] for a in range(book.letters)]
    best, waiting = 0, [(a,) for a in range(book.letters) if reach[a][a]]
    while waiting:
        chain = waiting.pop()
        best = max(best, len(chain))
        waiting += [chain + (b,) for b in range(book.letters)
                    if reach[b][b] and reach[chain[-1]][b] and not reach[b][chain[-1]]]
    return best


def powers(square):
    """Which letter leads to which one in 1, 2, .. letters steps."""
    size = len(square)
    found = [square]
    for _ in range(size - 1):
        last = found[-1]
        found.append([[int(any(last[a][c] and square[c][b] for c in range(size))) for b in range(size)]
                      for a in range(size)])
    return found


class Growths(Asks, unittest.TestCase):
    def pairs(self):
        return tidy_pairs(2) + [(book, list(range(book.letters))) for book in flag_books()]

    def test_just_one_of_three_by_their_own_words(self):
        some = {}
        for book, order in self.pairs():
            found = growth(book, order)
            where = (told(book), order, found)
            self.assertIsInstance(found, tuple)
            kind, number = found
            some[kind] = some.get(kind, 0) + 1
            counts = [count_long(book, order, length) for length in list(range(12)) + [200, 400, 800]]
            if 0 in counts:
                self.assertEqual(found, ("ends", counts.index(0)), where)
            elif kind == "power":
                # Twice the length, at most about 2 ** k times as many, and at least nearly so many.
                self.assertTrue(4 ** number <= 2 ** number * counts[-1] // counts[-2] + 2 ** number, where)
                self.assertTrue(counts[-1] * 2 <= 3 * 2 ** number * counts[-2], where)
                self.assertTrue(counts[-1] * 4 >= 3 * 2 ** number * counts[-2], where)
                self.assertEqual(number + 1, longest_sequence(book, order), where)
            else:
                self.assertEqual(kind, "doubles", where)
                self.assertTrue(counts[-1] > 800 ** book.letters, where)
                self.assertTrue(1 <= number <= 2 * book.letters, where)
                if book.letters <= 3:
                    rings = [max(ring_words(book, order, k + 1)) > 1 for k in range(number + 1)]
                    self.assertEqual(rings, [False] * number + [True], where)
                for j in range(8):
                    self.assertGreaterEqual(count_long(book, order, number * j + 1), 2 ** j, where)
        self.assertTrue(all(some[kind] > 20 for kind in ("ends", "power", "doubles")), some)

    def test_examples(self):
        self.assertEqual(growth(free_book(3, 1), [0]), ("power", 0))
        self.assertEqual(growth(shut_book(3, 1), [0]), ("ends", 2))
        self.assertEqual(growth(shut_book(3, 9), list(range(9))), ("ends", 2))
        self.assertEqual(growth(free_book(3, 2), [0, 1]), ("doubles", 2))
        self.assertEqual(growth(told_book(3, 2, [{(0, 0): 1}]), [0, 1]), ("doubles", 2))
        for letters in range(1, 6):
            order = list(range(letters))
            self.assertEqual(growth(exchange_book(5, letters), order), ("power", letters - 1))
            self.assertEqual(growth(minus_book(5, letters), order), ("ends", letters + 1))
        # Rings: one of three letters; two of three letters that share one; a ring behind another one.
        self.assertEqual(growth(self.kept(3, [(0, 1), (1, 2), (2, 0)]), [0, 1, 2]), ("power", 0))
        self.assertEqual(growth(self.kept(5, [(0, 1), (1, 2), (2, 0), (0, 3), (3, 4), (4, 0)]), range_of(5)),
                         ("doubles", 3))
        self.assertEqual(growth(self.kept(4, [(0, 1), (1, 0), (1, 2), (2, 3), (3, 2)]), range_of(4)), ("power", 1))
        self.assertEqual(growth(self.kept(4, [(0, 1), (1, 2), (2, 3)]), range_of(4)), ("ends", 5))
        # A ring of two and one of three letters through one: five steps back, the one ring ahead or the other one.
        self.assertEqual(growth(self.kept(4, [(0, 1), (1, 0), (0, 2), (2, 3), (3, 0)]), range_of(4)), ("doubles", 5))

    def kept(self, letters, some):
        return word_book(3, letters, [word for word in plain.words(letters, 2) if word not in some])

    def test_twice_as_many_steps_as_letters_but_no_more(self):
        # All letters in one ring, and a way that leaves one of them out: rings of n and of n - 1 letters.
        for letters in (3, 4, 5, 9):
            ring = [(a, (a + 1) % letters) for a in range(letters)]
            book = self.kept(letters, ring + [(letters - 2, 0)])
            self.assertEqual(growth(book, range_of(letters)), ("doubles", 2 * letters - 1))

    def test_heart_shadows_of_books_that_end(self):
        some = {}
        for book, order in self.pairs():
            if growth(book, order)[0] == "ends":
                few = count(book, 2) == book.letters * (book.letters - 1) // 2
                wanted = ("power", book.letters - 1) if few else ("doubles", 2)
                some[wanted[0]] = some.get(wanted[0], 0) + 1
                self.assertEqual(growth(shadow(book), order[::-1]), wanted, told(book))
        self.assertEqual(sorted(some), ["doubles", "power"])

    def test_wrong_inputs_in_sequence(self):
        wrong_orders(self, growth, Rules(3, 2, []))
        self.refuses("NotTidy", growth, bent_book(3), [0, 1])
        self.refuses("NotTidy", growth, bent_book(3), [1, 0])


def range_of(letters):
    return list(range(letters))


if __name__ == "__main__":
    unittest.main()
