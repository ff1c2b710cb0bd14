import itertools
import unittest

import plain
from asking import NUMBERS_NOT, Asks, number
from lowersamples import bracket, formed, lowered_rules, twisted
from ruleshadows.books import exchange_book, minus_book
from ruleshadows.families import bracket_lowered, form_lowered, twist_lowered
from ruleshadows.lowered import Lowered
from ruleshadows.losses import first_loss, loss
from ruleshadows.upto import count_up_to
from samples import Numbers, chance_table

FORMS = ((2, 1), (7, 1), (2, 2), (5, 2), (97, 2), (2, 3), (3, 3), (2, 4), (5, 4))


def forms(seeds):
    return [(prime, Numbers(seed).rows(letters, letters, 2 * prime, 1 + seed % 2))
            for prime, letters in FORMS for seed in range(seeds)]


def pairs_of(letters):
    return [(a, b) for a in range(letters) for b in range(a + 1, letters)]


def bracket_of(prime, letters, rows):
    """The bracket of two rows of letters, by those of the letters."""
    table = {pair: row for pair, row in zip(pairs_of(letters), rows)}

    def made(x, y):
        total = [0] * letters
        for a in range(letters):
            for b in range(letters):
                sign, row = (1, table[a, b]) if a < b else (-1, table[b, a]) if b < a else (0, [0] * letters)
                total = [(t + sign * x[a] * y[b] * r) % prime for t, r in zip(total, row)]
        return total
    return made


def is_straight_bracket(prime, letters, rows):
    """Whether, for all a, b, c, the sum of [[a, b], c], [[b, c], a], [[c, a], b] is 0."""
    made, letter = bracket_of(prime, letters, rows), plain.identity(letters)
    for a, b, c in itertools.combinations(range(letters), 3):
        turns = [made(made(letter[x], letter[y]), letter[z]) for x, y, z in ((a, b, c), (b, c, a), (c, a, b))]
        if any(sum(numbers) % prime for numbers in zip(*turns)):
            return False
    return True


def brackets():
    """Brackets of two to four letters: that of rows across one another, of tables, and chance ones."""
    found = [(2, 2, [[0, 1]]), (5, 2, [[3, 4]]), (5, 3, [[0, 0, 1], [0, -1, 0], [1, 0, 0]]),
             (3, 3, [[0, 0, 1], [0, 0, 0], [0, 0, 0]]), (7, 3, [[1, 0, 0], [0, 1, 0], [0, 0, 0]]), (7, 1, []),
             (5, 3, [[0, 1, 0], [0, 0, 2], [0, 0, 0]]), (97, 4, [[0, 1, 0, 0]] + [[0, 0, 0, 0]] * 5),
             (3, 4, [[0, 0, 1, 0], [0, 0, 0, 1]] + [[0, 0, 0, 0]] * 4)]
    for prime, letters in ((2, 3), (3, 3), (97, 3), (2, 4)):
        many = letters * (letters - 1) // 2
        found += [(prime, letters, Numbers(seed).rows(many, letters, prime, 1 + seed)) for seed in range(7)]
        # The letter 0 acts upon all others by a table, and these are exchanged.
        table = chance_table(prime, letters - 1, 3)
        found.append((prime, letters, [[0] + row for row in table] + [[0] * letters] * (many - letters + 1)))
    return found


class Families(Asks, unittest.TestCase):
    def test_brackets_word_by_word(self):
        for prime, letters, rows in brackets():
            found = bracket_lowered(prime, letters, rows)
            self.assertEqual(found, bracket(prime, letters, rows))
            self.assertEqual(found.book, exchange_book(prime, letters))
            for (a, b), row, rule in zip(pairs_of(letters), rows, lowered_rules(found)):
                wanted = {(a, b): 1, (b, a): -1}
                wanted.update({(k,): -number for k, number in enumerate(row)})
                self.assertEqual({word: x % prime for word, x in rule.items() if x % prime},
                                 {word: x % prime for word, x in wanted.items() if x % prime})

    def test_fact_nothing_is_lost_exactly_if_turns_add_up_to_nothing(self):
        some = {True: 0, False: 0}
        for prime, letters, rows in brackets():
            found = bracket_lowered(prime, letters, rows)
            straight = is_straight_bracket(prime, letters, rows)
            some[straight] += letters > 2
            self.assertIs(loss(found, 3) == 0, straight, (prime, letters, rows))
            if straight:
                self.assertIsNone(first_loss(found, 4), (prime, letters, rows))
            else:
                self.assertEqual(first_loss(found, 4), 3)
        self.assertTrue(some[True] > 8 and some[False] > 5, some)

    def test_forms_and_twists_word_by_word(self):
        for prime, form in forms(4):
            letters = len(form)
            for found, book, wanted in ((form_lowered(prime, form), minus_book(prime, letters), formed(prime, form)),
                                        (twist_lowered(prime, form), exchange_book(prime, letters),
                                         twisted(prime, form))):
                self.assertEqual(found, wanted)
                self.assertEqual(found.book, book)
                self.assertFalse(any(any(row) for row in found.sums))
            told = [{word: x % prime for word, x in rule.items() if x % prime}
                    for rule in lowered_rules(form_lowered(prime, form))]
            for a in range(letters):
                for b in range(a, letters):
                    rule = {(a, b): 1, (b, a): 1, (): -form[a][b] % prime}
                    self.assertIn({word: x for word, x in rule.items() if x}, told)

    def test_fact_they_lose_nothing(self):
        for prime, form in forms(3):
            most = {1: 7, 2: 7, 3: 5, 4: 4}[len(form)]
            self.assertIsNone(first_loss(form_lowered(prime, form), most), (prime, form))
            self.assertIsNone(first_loss(twist_lowered(prime, form), most), (prime, form))

    def test_fact_a_form_has_two_times_as_many_words_for_each_letter(self):
        for prime, form in forms(2):
            letters = len(form)
            for length in range(letters, {1: 7, 2: 6, 3: 5, 4: 4}[letters] + 1):
                self.assertEqual(count_up_to(form_lowered(prime, form), length), 2 ** letters)

    def test_by_hand(self):
        # Three letters: ab less ba is c, ac less ca is less b, bc less cb is a.
        found = bracket_lowered(5, 3, [[0, 0, 1], [0, -1, 0], [1, 0, 0]])
        self.assertEqual(found, Lowered(exchange_book(5, 3), [[0, 0, 1], [0, 4, 0], [1, 0, 0]], [0, 0, 0]))
        found = form_lowered(3, [[4, 2], [1, 5]])
        self.assertEqual((found.numbers, found.book), ((1, 2, 2), minus_book(3, 2)))
        found = twist_lowered(3, [[4, 2], [1, 5]])
        self.assertEqual((found.numbers, found.book), ((2,), exchange_book(3, 2)))
        self.assertEqual(twist_lowered(3, [[1]]), Lowered(exchange_book(3, 1), [], []))
        self.assertEqual(form_lowered(3, [[1]]), Lowered(minus_book(3, 1), [[0]], [1]))
        self.assertEqual(bracket_lowered(2, 1, ()), Lowered(exchange_book(2, 1), [], []))
        self.assertEqual(len(form_lowered(2, [[1] * 9] * 9).numbers), 45)
        self.assertEqual(len(bracket_lowered(97, 9, [[1] * 9] * 36).sums), 36)

    def test_wrong_inputs_in_sequence(self):
        for wrong in NUMBERS_NOT + (0, 1, 4, 98, 101):
            self.refuses("BadPrime", bracket_lowered, wrong, None, None)
            self.refuses("BadPrime", form_lowered, wrong, None)
            self.refuses("BadPrime", twist_lowered, wrong, None)
        for wrong in NUMBERS_NOT + (0, 10, -1):
            self.refuses(number("letters"), bracket_lowered, 3, wrong, None)
        for wrong in (None, 0, [], [[0, 0, 0]] * 2, [[0, 0, 0]] * 4, [[0, 0]] * 3, [[0, 0, 0], [0, 0, 0], [0, 0, True]],
                      [0] * 9, "abc", {0: 0, 1: 1, 2: 2}):
            self.refuses("BadRow", bracket_lowered, 3, 3, wrong)
        self.refuses("BadRow", bracket_lowered, 3, 1, [[0]])
        for wrong in (None, 0, [], [[]], [[1, 0]], [[1, 0], [0]], [[1, 0], [0, True]], [1, 0, 0, 1], "ab",
                      [[0] * 10] * 10, [[1, 0, 0], [0, 1, 0]]):
            self.refuses("BadTable", form_lowered, 3, wrong)
            self.refuses("BadTable", twist_lowered, 3, wrong)


if __name__ == "__main__":
    unittest.main()
