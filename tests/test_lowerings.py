import itertools
import unittest

import plain
from asking import MANY, NO_BOOK, Asks
from ruleshadows.books import exchange_book, free_book, minus_book, shut_book
from ruleshadows.losses import defects, loss
from ruleshadows.lowered import Lowered, unlowered
from ruleshadows.lowerings import lowerings, numbers_for, sums_room
from ruleshadows.places import common_room
from samples import Numbers, bent_book, chance_book, few_books, heart_book, small_books, told, told_book


def flat(sums):
    return [x for row in sums for x in row]


def cut(book, row):
    return [list(row[i * book.letters:(i + 1) * book.letters]) for i in range(len(book.rules))]


def pairs_left(book, sums):
    """For each common row of three letters what has two letters in the difference of its ways, put to its rest."""
    letters = book.letters
    found = []
    for row in common_room(book, 3):
        total = [0] * letters ** 2
        for a in range(letters):
            behind = [row[at * letters + a] for at in range(letters ** 2)]
            ahead = row[a * letters ** 2:(a + 1) * letters ** 2]
            for rule, part in zip(book.rules, sums):
                for c in range(letters):
                    total[c * letters + a] += behind[plain.first(rule)] * part[c]
                    total[a * letters + c] -= ahead[plain.first(rule)] * part[c]
        found.append(plain.left(book.prime, book.rules, total))
    return found


def plain_sums(book):
    """sums_room, by what each sum of one letter for one rule leaves."""
    size = len(book.rules) * book.letters
    left = [flat(pairs_left(book, cut(book, plain.unit(size, at)))) for at in range(size)]
    if not size or not left[0]:
        return plain.identity(size)
    return plain.dark(book.prime, plain.transposed(left), size)


def all_rows(prime, size):
    return itertools.product(range(prime), repeat=size)


def spanned(prime, rows, size):
    return [plain.summed(prime, rows, numbers, size) for numbers in all_rows(prime, len(rows))]


def numbers_that_do(book, sums):
    """All numbers with which these sums lose nothing at three letters, tried one by one."""
    return [numbers for numbers in all_rows(book.prime, len(book.rules))
            if not any(any(row) for row in defects(Lowered(book, sums, numbers)))]


class Lowerings(Asks, unittest.TestCase):
    def test_sums_by_the_plain_way(self):
        for book in small_books():
            found = sums_room(book)
            self.assertIsInstance(found, list)
            self.assertEqual(found, plain_sums(book), told(book))

    def test_sums_by_their_own_words(self):
        for book in few_books():
            size = len(book.rules) * book.letters
            room = sums_room(book)
            for seed in range(6):
                row = Numbers(seed).row(size, book.prime, 1 + seed)
                inside = not any(any(left) for left in pairs_left(book, cut(book, row)))
                self.assertIs(plain.within(book.prime, room, row), inside, told(book))

    def test_numbers_by_trying_all(self):
        some = {True: 0, False: 0}
        for book in small_books():
            many = len(book.rules)
            if book.prime ** many > 100 or book.letters > 3:
                continue
            room = sums_room(book)
            tries = [[[0] * book.letters for _ in range(many)]]
            tries += [cut(book, Numbers(seed).row(many * book.letters, book.prime, 1 + seed)) for seed in range(4)]
            for seed in range(4):
                tries.append(cut(book, plain.summed(book.prime, room, Numbers(seed).row(len(room), book.prime),
                                                    many * book.letters)))
            for sums in tries:
                wanted = numbers_that_do(book, sums)
                found = numbers_for(book, sums)
                some[found is not None] += 1
                self.check_numbers(book, sums, found, wanted)
        self.assertTrue(some[True] > 50 and some[False] > 20, some)

    def check_numbers(self, book, sums, found, wanted):
        where = (told(book), sums)
        if found is None:
            self.assertEqual(wanted, [], where)
            return
        numbers, room = found
        self.assertTrue(isinstance(found, tuple) and isinstance(numbers, tuple) and isinstance(room, list))
        many = len(book.rules)
        self.assertEqual(room, plain.gauss(book.prime, room) if room else [], where)
        self.assertTrue(all(numbers[plain.first(row)] == 0 for row in room), where)
        there = sorted(tuple((x + y) % book.prime for x, y in zip(numbers, row))
                       for row in spanned(book.prime, room, many))
        self.assertEqual(there, wanted, where)
        if not any(flat(sums)):
            self.assertEqual(numbers, (0,) * many)
        self.assertTrue(plain.within(book.prime, sums_room(book), flat(sums)))

    def test_sums_in_the_room_for_which_there_are_no_numbers(self):
        some = 0
        for prime, letters in ((2, 2), (3, 2), (2, 3)):
            for seed in range(25):
                book = chance_book(prime, letters, 2 + seed % 2, seed)
                room, size = sums_room(book), len(book.rules) * letters
                for k in range(6):
                    row = plain.summed(prime, room, Numbers(k + seed).row(len(room), prime), size)
                    if numbers_for(book, cut(book, row)) is None:
                        some += 1
                        self.assertEqual(numbers_that_do(book, cut(book, row)), [])
        self.assertGreater(some, 3)

    def test_lowerings_by_trying_all(self):
        for book in (free_book(3, 2), free_book(97, 9), shut_book(2, 1), shut_book(7, 1), exchange_book(2, 2),
                     exchange_book(3, 2), exchange_book(7, 2), told_book(2, 2, [{(0, 0): 1}, {(1, 1): 1}]),
                     told_book(3, 2, [{(0, 0): 1, (0, 1): 1}]), bent_book(2), chance_book(2, 2, 3, 4), bent_book(3),
                     told_book(2, 3, [{(0, 0): 1, (1, 2): 1}]), told_book(2, 3, [{(0, 0): 1}, {(1, 2): 1}]),
                     told_book(31, 1, [{(0, 0): 1}])):
            many, letters = len(book.rules), book.letters
            wanted = []
            for row in all_rows(book.prime, many * letters):
                sums = tuple(row[i * letters:(i + 1) * letters] for i in range(many))
                wanted += [(sums, numbers) for numbers in all_rows(book.prime, many)
                           if not any(any(x) for x in defects(Lowered(book, sums, numbers)))]
            found = lowerings(book)
            self.assertIsInstance(found, list)
            self.assertEqual(found, sorted(wanted), told(book))
            for sums, numbers in found[:3] + found[-3:]:
                self.assertEqual(loss(Lowered(book, sums, numbers), 3), 0)

    def test_examples(self):
        self.assertEqual(lowerings(free_book(5, 3)), [((), ())])
        self.assertEqual(numbers_for(free_book(5, 3), []), ((), []))
        self.assertEqual(sums_room(free_book(5, 3)), [])
        # One letter: all lower parts will do.
        self.assertEqual(len(lowerings(shut_book(5, 1))), 25)
        self.assertEqual(numbers_for(shut_book(5, 1), [[3]]), ((0,), [(1,)]))
        # Of 00 no letter but 0 itself, and any number.
        book = told_book(3, 2, [{(0, 0): 1}])
        self.assertEqual(sums_room(book), [(1, 0)])
        self.assertEqual(lowerings(book), [(((x, 0),), (y,)) for x in range(3) for y in range(3)])
        self.assertIsNone(numbers_for(book, [[0, 1]]))
        self.assertEqual(numbers_for(book, ((4, 3),)), ((0,), [(1,)]))
        # Two letters that are exchanged: ab less ba may be anything.
        self.assertEqual(len(lowerings(exchange_book(7, 2))), 343)

    def test_greater_books(self):
        for letters in (4, 9):
            book = exchange_book(97, letters)
            self.assertEqual(len(sums_room(book)), len(book.rules) * letters)
            numbers, room = numbers_for(book, unlowered(book).sums)
            self.assertEqual((numbers, len(room)), ((0,) * len(book.rules), len(book.rules)))
        book = minus_book(5, 4)
        self.assertEqual(len(numbers_for(book, unlowered(book).sums)[1]), 10)
        self.assertEqual(len(sums_room(shut_book(3, 4))), 64)
        book = heart_book(5, 1, 1)
        for row in sums_room(book):
            found = numbers_for(book, cut(book, row))
            if found is not None:
                self.assertEqual(loss(Lowered(book, cut(book, row), found[0]), 3), 0)

    def test_wrong_inputs_in_sequence(self):
        book = exchange_book(3, 3)
        for wrong in (None, 0, "x", [book], unlowered(book)):
            self.refuses(NO_BOOK, sums_room, wrong)
            self.refuses(NO_BOOK, numbers_for, wrong, None)
            self.refuses(NO_BOOK, lowerings, wrong)
        for wrong in (None, 0, [], [[0, 0, 0]] * 2, [[0, 0, 0]] * 4, [[0, 0]] * 3, [[0, 0, 0], [0, 0, 0], [0, 0, True]],
                      [0] * 9, "abc"):
            self.refuses("BadRow", numbers_for, book, wrong)
        self.refuses(MANY, lowerings, exchange_book(11, 2))
        self.refuses(MANY, lowerings, exchange_book(2, 3))
        self.refuses(MANY, lowerings, shut_book(97, 9))
        self.refuses(MANY, lowerings, shut_book(37, 1))


if __name__ == "__main__":
    unittest.main()
