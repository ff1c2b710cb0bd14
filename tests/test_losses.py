import unittest

import plain
from asking import MANY, NUMBERS_NOT, Asks, number
from lowersamples import (
    bracket, chance_lowered, formed, long_words, longest_up_to, losing_example, lowered_rules, moved_from,
    plain_nothing, some_lowered, spelled, told_lowered, twisted)
from ruleshadows.books import exchange_book, free_book, minus_book
from ruleshadows.ladders import fits
from ruleshadows.longs import long_size
from ruleshadows.losses import defects, first_loss, loss
from ruleshadows.lowered import Lowered, unlowered
from ruleshadows.places import common_room
from ruleshadows.relations import relation_numbers
from ruleshadows.rests import count, nothing_room
from ruleshadows.upto import long_product, long_rest, tops
from samples import chance_book, chance_row, heart_book, small_books, told_book
from test_longs import NO_LOWER


def plain_defects(lowered):
    """For each common row of three letters both ways, lower parts put in, by solving for the ways from full rows."""
    book, letters, prime = lowered.book, lowered.book.letters, lowered.book.prime
    found = []
    for row in common_room(book, 3):
        difference = {}
        for side in (0, 1):
            for letter in range(letters):
                if side == 0:
                    part = [row[at * letters + letter] for at in range(letters ** 2)]
                else:
                    part = row[letter * letters ** 2:(letter + 1) * letters ** 2]
                for rule, low in zip(book.rules, lowered_rules(lowered)):
                    times = part[plain.first(rule)]
                    # What a rule is: less the words of one letter and none that its lowered rule has.
                    for word, x in low.items():
                        if len(word) < 2:
                            whole = word + (letter,) if side == 0 else (letter,) + word
                            sign = -1 if side == 0 else 1
                            difference[whole] = (difference.get(whole, 0) + sign * times * x) % prime
        found.append(spelled(letters, 2, difference))
    return found


class Losses(Asks, unittest.TestCase):
    def test_losses_by_the_plain_way(self):
        for lowered in some_lowered():
            letters = lowered.book.letters
            losses = []
            for length in range(longest_up_to(lowered) + 1):
                counts = sum(count(lowered.book, k) for k in range(length + 1))
                kept = len(long_words(letters, length)) - len(plain_nothing(lowered, length))
                self.assertEqual(loss(lowered, length), counts - kept, (told_lowered(lowered), length))
                losses.append(counts - kept)
                first = [k for k, number in enumerate(losses) if number]
                self.assertEqual(first_loss(lowered, length), first[0] if first else None)

    def test_facts(self):
        for lowered in some_lowered():
            length = longest_up_to(lowered) + (lowered.book.letters < 4)
            losses = [loss(lowered, k) for k in range(length + 1)]
            self.assertEqual(losses, sorted(losses), told_lowered(lowered))
            self.assertEqual(losses[:3], [0, 0, 0])
            there = sum(len(tops(lowered, length, top)) for top in range(length + 1))
            nothing = sum(len(nothing_room(lowered.book, top)) for top in range(length + 1))
            self.assertEqual(there - nothing, losses[-1])
        for book in small_books():
            self.assertEqual(loss(unlowered(book), 3), 0)
            self.assertIsNone(first_loss(unlowered(book), 4))
            self.assertEqual(loss(moved_from(book, 3), 3), 0)

    def test_fact_products_of_three(self):
        for lowered in some_lowered():
            letters, prime = lowered.book.letters, lowered.book.prime
            length = longest_up_to(lowered)
            if length < 4:
                continue
            one, other, third = [chance_row(long_size(letters, k), prime, k) for k in (1, 2, 1)]
            ahead = long_product(lowered, 3, long_product(lowered, 1, one, 2, other), 1, third)
            behind = long_product(lowered, 1, one, 3, long_product(lowered, 2, other, 1, third))
            self.assertEqual(ahead, behind)
            room = plain_nothing(lowered, 2)
            if room:
                same = tuple((x + y) % prime for x, y in zip(other, room[0]))
                self.assertEqual(long_product(lowered, 2, same, 1, third), long_product(lowered, 2, other, 1, third))

    def test_defects_by_the_plain_way(self):
        for lowered in some_lowered():
            room = plain_nothing(lowered, 2)
            wanted = [plain.left(lowered.book.prime, room, row) for row in plain_defects(lowered)]
            found = defects(lowered)
            self.assertIsInstance(found, tuple)
            self.assertEqual(list(found), wanted, told_lowered(lowered))
            for row in found:
                self.assertEqual(long_rest(lowered, 2, row), row)

    def test_heart_defects_tell_the_loss_at_three_letters(self):
        some = {}
        for lowered in some_lowered() + self.many():
            found = defects(lowered)
            lost = loss(lowered, 3)
            self.assertEqual(len(plain.gauss(lowered.book.prime, found)), lost, told_lowered(lowered))
            self.assertIs(any(any(row) for row in found), lost > 0)
            some[lost] = some.get(lost, 0) + 1
        self.assertTrue(some[0] > 20 and len(some) > 4, some)

    def many(self):
        found = []
        for seed, book in enumerate(small_books()):
            if book.letters < 4:
                found.append(chance_lowered(book, seed, 1 + seed % 5))
        return found

    def test_heart_fitting_books_lose_nothing_if_not_at_three_letters(self):
        some = {True: 0, False: 0}
        for lowered in some_lowered() + self.many():
            most = {1: 7, 2: 6, 3: 5, 4: 4}[lowered.book.letters]
            lost = loss(lowered, 3) > 0
            if fits(lowered.book, most):
                some[lost] += 1
                for length in range(3, most + 1):
                    self.assertIs(loss(lowered, length) > 0, lost, (told_lowered(lowered), length))
                self.assertEqual(first_loss(lowered, most), 3 if lost else None)
            elif not lost:
                # It is enough that relations at step 3 have three letters.
                numbers = relation_numbers(lowered.book, most, 0)[3]
                if not any(numbers[4:]):
                    self.assertIsNone(first_loss(lowered, most), told_lowered(lowered))
        self.assertTrue(some[True] > 10 and some[False] > 10)

    def test_example_of_a_book_that_does_not_fit(self):
        for prime in (2, 3, 5, 7, 97):
            lowered = losing_example(prime)
            self.assertEqual([loss(lowered, length) for length in range(6)], [0, 0, 0, 0, 1, 2])
            self.assertEqual(first_loss(lowered, 7), 4)
            self.assertIsNone(first_loss(lowered, 3))
            self.assertFalse(any(any(row) for row in defects(lowered)))
            self.assertFalse(fits(lowered.book, 4))

    def test_known_losses(self):
        # Of exchange_book ab less ba is c, ac less ca is less b, bc less cb is a: what is asked of three is so.
        turning = bracket(5, 3, [[0, 0, 1], [0, -1, 0], [1, 0, 0]])
        self.assertEqual([loss(turning, k) for k in range(6)], [0] * 6)
        # ab less ba is a, ac less ca is b, bc and cb are exchanged: b is left.
        bad = bracket(7, 3, [[1, 0, 0], [0, 1, 0], [0, 0, 0]])
        self.assertEqual(loss(bad, 3), 1)
        self.assertEqual(first_loss(bad, 5), 3)
        for prime in (2, 3, 97):
            for letters in (1, 2, 3):
                form = [[(2 * a + b + 1) % prime for b in range(letters)] for a in range(letters)]
                for lowered in (formed(prime, form), twisted(prime, form)):
                    self.assertIsNone(first_loss(lowered, 5))
        # One letter: aa is any sum.
        self.assertEqual(loss(Lowered(told_book(7, 1, [{(0, 0): 1}]), [[3]], [4]), 900), 0)
        self.assertEqual(defects(Lowered(told_book(7, 1, [{(0, 0): 1}]), [[3]], [4])), ((0, 0, 0),))
        self.assertEqual(defects(unlowered(free_book(7, 2))), ())
        self.assertIsNone(first_loss(unlowered(free_book(7, 1)), 999))

    def test_defects_by_hand(self):
        # 00 is the letter 1: so 000 is 10 and 01, of which one less the other is lost; 00 may be 0 and a number.
        book = told_book(5, 2, [{(0, 0): 1}])
        self.assertEqual(defects(Lowered(book, [[0, 1]], [0])), ((0, -1 % 5, 1, 0, 0, 0, 0),))
        self.assertEqual(defects(Lowered(book, [[1, 0]], [3])), ((0, 0, 0, 0, 0, 0, 0),))
        both = told_book(5, 2, [{(0, 0): 1}, {(0, 1): 1}])
        # 000: 00 is 1: 0 less 0. 001: 00 is 1, 01 is nothing: the letter 1 is left.
        self.assertEqual(defects(Lowered(both, [[0, 0], [0, 0]], [1, 0])), ((0,) * 7, (0, 0, 0, 0, 0, 1, 0)))
        self.assertEqual(loss(Lowered(both, [[0, 0], [0, 0]], [1, 0]), 3), 1)

    def test_greater_books(self):
        for book in (exchange_book(97, 9), minus_book(2, 9)):
            lowered = moved_from(book, 5)
            self.assertEqual(loss(lowered, 3), 0)
            self.assertFalse(any(any(row) for row in defects(lowered)))
        lowered = chance_lowered(exchange_book(97, 5), 3)
        self.assertEqual(loss(lowered, 3), len(plain.gauss(97, defects(lowered))))
        self.assertEqual(first_loss(lowered, 4), 3)
        self.assertEqual(loss(chance_lowered(heart_book(5, 1, 1), 3, 4), 3) > 0, True)
        self.assertEqual(loss(unlowered(chance_book(3, 2, 2, 4)), 8), 0)

    def test_wrong_inputs_in_sequence(self):
        lowered = unlowered(exchange_book(3, 2))
        for wrong in NO_LOWER:
            self.refuses("BadLower", loss, wrong, -1)
            self.refuses("BadLower", first_loss, wrong, -1)
            self.refuses("BadLower", defects, wrong)
        for wrong in NUMBERS_NOT + (-1,):
            self.refuses(number("length"), loss, lowered, wrong)
            self.refuses(number("most"), first_loss, lowered, wrong)
        for function in (loss, first_loss):
            self.refuses(MANY, function, lowered, 9)
            self.refuses(MANY, function, unlowered(free_book(2, 9)), 4)
            self.refuses(MANY, function, unlowered(free_book(2, 1)), 1000)
            self.refuses(MANY, function, lowered, 10 ** 12)


if __name__ == "__main__":
    unittest.main()
