import unittest

import plain
from asking import MANY, NO_BOOK, NUMBERS_NOT, Asks, number
from keepsamples import all_tables, joined, plain_keeps
from makingsamples import all_books, few_pairs
from ruleshadows.books import Rules, exchange_book, free_book, minus_book, shut_book
from ruleshadows.maps import (
    bent, is_map, keepers, letter_maps, lost_by, reached_by, row_sent, sent_back, sent_behind)
from ruleshadows.products import black_product, white_product
from ruleshadows.rests import count, rest, rest_product, rest_words
from ruleshadows.shadows import shadow
from ruleshadows.sides import free_sides
from samples import Numbers, bent_book, chance_book, chance_row, told, told_book


def plain_sent(prime, length, row, table):
    """The row with each letter of each word sent, word by word."""
    n, m = len(table), len(table[0])
    found = [0] * m ** length
    for x, word in zip(row, plain.words(n, length)):
        for at, other in enumerate(plain.words(m, length)):
            times = x
            for a, b in zip(word, other):
                times = times * table[a][b]
            found[at] = (found[at] + times) % prime
    return found


def plain_map(one, other, table):
    return all(plain.within(one.prime, other.rules, plain_sent(one.prime, 2, rule, table)) for rule in one.rules)


def map_pairs():
    """Triples of two books and a table, a map: all there are for small ones, some for others."""
    found = []
    for one, other in few_pairs() + [(exchange_book(2, 2), exchange_book(2, 3)), (bent_book(2), bent_book(2)),
                                     (told_book(3, 2, [{(0, 0): 1}]), minus_book(3, 2))]:
        if one.prime ** (one.letters * other.letters) <= 100:
            tables = all_tables(one.prime, one.letters, other.letters)
            some = [table for table in tables if plain_map(one, other, table)]
            found += [(one, other, table) for table in some[:3] + some[3::5]]
    for prime, n, m in ((97, 2, 2), (5, 3, 2), (5, 1, 3), (3, 2, 3)):
        for seed in range(3):
            table = Numbers(seed).rows(n, m, prime)
            found.append((exchange_book(prime, n), exchange_book(prime, m), table))
            found.append((free_book(prime, n), chance_book(prime, m, 2, seed), table))
            found.append((chance_book(prime, n, 2, seed), shut_book(prime, m), table))
    return found


def short(*letters):
    return {1: 6, 2: 5, 3: 3, 4: 3}[max(letters)]


class Maps(Asks, unittest.TestCase):
    def test_is_map_by_trying_all_tables(self):
        some = {True: 0, False: 0}
        for one, other in few_pairs() + [(bent_book(2), bent_book(2)), (exchange_book(2, 3), exchange_book(2, 2))]:
            size = one.letters * other.letters
            if one.prime ** size > 1000:
                self.refuses(MANY, letter_maps, one, other)
                continue
            tables = all_tables(one.prime, one.letters, other.letters)
            there = [table for table in tables if plain_map(one, other, table)]
            for table in tables:
                wanted = table in there
                some[wanted] += 1
                self.assertIs(is_map(one, other, table), wanted, (told(one), told(other), table))
            self.assertEqual(letter_maps(one, other), there, (told(one), told(other)))
            self.assertIn(((0,) * other.letters,) * one.letters, there)
        self.assertTrue(some[True] > 50 and some[False] > 50)

    def test_is_map_any_value(self):
        one, other = exchange_book(5, 2), free_book(5, 3)
        self.assertIs(is_map(one, other, [[1, 2, 3], [2, 4, 6]]), True)
        self.assertIs(is_map(one, other, ((6, 7, 8), [-3, 9, 1])), True)
        self.assertIs(is_map(one, other, [[1, 2, 3], [2, 4, 5]]), False)
        for wrong in (None, 0, True, "ab", [], [[1, 2, 3]], [[0, 0, 0]] * 3, [[0, 0], [0, 0]], [[0, 0, 0], [0, 0]],
                      [[0, 0, 0], [0, 0, False]], [[0, 0, 0], [0, 0, 0.0]], [0] * 6, {0: 1}, [None, None]):
            self.assertIs(is_map(one, other, wrong), False, wrong)

    def test_row_sent_by_the_plain_way(self):
        for one, other, table in map_pairs():
            for length in range(short(one.letters, other.letters) + 1):
                row = chance_row(one.letters ** length, 2 * one.prime, length + 4)
                room = plain.nothing(one.prime, other.letters, other.rules, length)
                found = row_sent(one, other, table, length, row)
                self.assertIsInstance(found, tuple)
                self.assertEqual(found, plain.left(one.prime, room, plain_sent(one.prime, length, row, table)))
                self.assertEqual(row_sent(one, other, table, length, rest(one, length, row)), found)

    def test_lost_and_reached_by_the_plain_way(self):
        for one, other, table in map_pairs():
            for length in range(short(one.letters, other.letters) + 1):
                every = plain.words(one.letters, length)
                some = [plain.unit(len(every), every.index(word)) for word in rest_words(one, length)]
                sent = [row_sent(one, other, table, length, row) for row in some]
                where = (told(one), told(other), table, length)
                self.assertEqual(reached_by(one, other, table, length), plain.gauss(one.prime, sent), where)
                silent = plain.dark(one.prime, plain.transposed(sent), len(some)) if some else []
                wanted = [plain.summed(one.prime, some, numbers, len(every)) for numbers in silent]
                found = lost_by(one, other, table, length)
                self.assertEqual(found, wanted, where)
                self.assertEqual(len(found) + len(reached_by(one, other, table, length)), count(one, length))

    def test_fact_lost_rests_stay_lost(self):
        for one, other, table in map_pairs():
            for length in range(1, short(one.letters, other.letters)):
                lost = lost_by(one, other, table, length)
                longer = lost_by(one, other, table, length + 1)
                for row in lost:
                    for letter in plain.identity(one.letters):
                        ahead = rest_product(one, 1, letter, length, row)
                        behind = rest_product(one, length, row, 1, letter)
                        for found in (ahead, behind):
                            self.assertTrue(plain.within(one.prime, longer, found), (told(one), told(other), table))

    def test_fact_maps_one_behind_the_other(self):
        books = [free_book(2, 1), shut_book(2, 1), bent_book(2), exchange_book(2, 2), chance_book(2, 2, 2, 4)]
        for one in books:
            for other in books:
                for third in books:
                    for table in letter_maps(one, other)[-2:]:
                        for second in letter_maps(other, third)[-2:]:
                            both = sent_behind(2, table, second)
                            self.assertIn(both, letter_maps(one, third))
                            for length in (1, 3):
                                less = lost_by(one, other, table, length)
                                more = lost_by(one, third, both, length)
                                self.assertTrue(all(plain.within(2, more, row) for row in less))

    def test_heart_back_between_shadows(self):
        for one, other in few_pairs():
            if one.prime ** (one.letters * other.letters) <= 250:
                back = letter_maps(shadow(other), shadow(one))
                found = sorted(sent_back(one.prime, table) for table in letter_maps(one, other))
                self.assertEqual(found, back, (told(one), told(other)))
        for one, other, table in map_pairs():
            self.assertIs(is_map(shadow(other), shadow(one), sent_back(one.prime, table)), True)

    def test_sent_behind_and_back(self):
        self.assertEqual(sent_behind(5, [[1, 2], [3, 4]], [[1, 0, 7], [0, -1, 1]]), ((1, 3, 4), (3, 1, 0)))
        self.assertEqual(sent_behind(5, ((6,),), ((-1,),)), ((4,),))
        self.assertEqual(sent_back(5, [[1, 2, 8], [4, 5, -1]]), ((1, 4), (2, 0), (3, 4)))
        self.assertEqual(sent_back(5, [[7]]), ((2,),))
        # Nothing says that tables end at nine letters.
        wide = [[(a * b + 1) % 7 for a in range(12)] for b in range(10)]
        self.assertEqual(sent_back(7, sent_back(7, wide)), tuple(tuple(row) for row in wide))
        self.assertEqual(sent_behind(7, wide, plain.identity(12)), tuple(tuple(row) for row in wide))
        self.assertEqual(sent_behind(7, plain.identity(10), wide), joined(7, plain.identity(10), wide))

    def test_wrong_tables_behind_and_back(self):
        tables = (None, 0, "ab", [], (), [[]], [1], [[1], []], [[1, 2], [1]], [[1, True]], [None], {0: [1]}, [[1.0]])
        for wrong in NUMBERS_NOT + (0, 4, 101):
            self.refuses("BadPrime", sent_behind, wrong, None, None)
            self.refuses("BadPrime", sent_back, wrong, None)
        for wrong in tables:
            self.refuses("BadTable", sent_behind, 5, wrong, [[1]])
            self.refuses("BadTable", sent_behind, 5, [[1]], wrong)
            self.refuses("BadTable", sent_back, 5, wrong)
        self.refuses("BadTable", sent_behind, 5, [[1, 2]], [[1, 2]])
        self.refuses("BadTable", sent_behind, 5, [[1]], [[1], [2]])

    def test_keepers(self):
        for book in (free_book(5, 1), bent_book(2), bent_book(3), exchange_book(3, 2), shut_book(5, 2),
                     chance_book(5, 2, 2, 4), minus_book(2, 3), chance_book(2, 3, 4, 4)):
            found = keepers(book)
            self.assertEqual(found, [table for table in all_tables(book.prime, book.letters, book.letters)
                                     if plain_keeps(book, table)], told(book))
            plain_table = tuple(plain.identity(book.letters))
            self.assertIn(plain_table, found)
            for table in found[:4] + found[-4:]:
                self.assertIn(tuple(plain.undone(book.prime, table)), found)
                for other in found[::7]:
                    self.assertIn(sent_behind(book.prime, table, other), found)

    def test_heart_bent(self):
        some = {True: 0, False: 0}
        for one, other, third in self.triples():
            n, m, size = one.letters, other.letters, third.letters
            first, last = black_product(one, other), white_product(shadow(other), third)
            tables = all_tables(one.prime, n * m, size) if one.prime ** (n * m * size) < 700 else [
                Numbers(seed).rows(n * m, size, one.prime, thin=3) for seed in range(40)]
            for table in tables:
                found = is_map(one, last, bent(one, other, table))
                some[found] += 1
                self.assertIs(is_map(first, third, table), found, (told(one), told(other), told(third), table))
            if one.prime ** (n * m * size) < 700:
                self.assertEqual(len(letter_maps(first, third)), len(letter_maps(one, last)))
        self.assertTrue(some[True] > 100 and some[False] > 100)

    def triples(self):
        for prime in (2, 3):
            few, more = all_books(prime, 1), all_books(prime, 2)
            for k, one in enumerate(few + more):
                for i, other in enumerate(few + more):
                    third = (few + more)[(3 * k + i) % 10]
                    yield one, other, third
        yield exchange_book(97, 2), bent_book(97), exchange_book(97, 2)

    def test_bent_by_hand(self):
        one, other = free_book(5, 2), free_book(5, 2)
        table = [[1, 2, 3], [4, 5, 6], [7, 8, 9], [-1, -2, -3]]
        self.assertEqual(bent(one, other, table), ((1, 2, 3, 4, 0, 1), (2, 3, 4, 4, 3, 2)))
        self.assertEqual(bent(free_book(5, 1), other, [[1], [7]]), ((1, 2),))
        self.assertEqual(bent(other, free_book(5, 1), ([1], (7,))), ((1,), (2,)))
        wide = bent(free_book(5, 9), free_book(5, 9), [[k] for k in range(81)])
        self.assertEqual(wide, tuple(tuple((9 * v + w) % 5 for w in range(9)) for v in range(9)))

    def test_fact_maps_from_free_sides(self):
        for prime in (2, 3):
            for third in (bent_book(prime), minus_book(prime, 2), free_book(prime, 1)):
                for one in all_books(prime, 1):
                    for other in all_books(prime, 1) + all_books(prime, 2)[2:5]:
                        if prime ** ((one.letters + other.letters) * third.letters) <= 1000:
                            wanted = sorted(first + second for first in letter_maps(one, third)
                                            for second in letter_maps(other, third))
                            self.assertEqual(letter_maps(free_sides(one, other), third), wanted)

    def test_fact_tables_multiplied_letter_by_letter(self):
        prime = 3
        books = all_books(prime, 1) + [bent_book(prime), exchange_book(prime, 2)]
        for one in books[1:]:
            for third in books[2:]:
                for other in books[:3]:
                    fourth = books[0]
                    for table in letter_maps(one, third)[-2:]:
                        for second in letter_maps(other, fourth)[-1:]:
                            both = [[x * y for x in table[a] for y in second[b]]
                                    for a in range(one.letters) for b in range(other.letters)]
                            for function in (white_product, black_product):
                                self.assertIs(is_map(function(one, other), function(third, fourth), both), True)

    def test_example_by_hand(self):
        shut, free = shut_book(2, 1), free_book(2, 1)
        self.assertEqual(letter_maps(shut, free), [((0,),)])
        self.assertEqual(letter_maps(free, shut), [((0,),), ((1,),)])
        self.assertEqual([lost_by(free, shut, [[1]], d) for d in range(5)], [[], [], [(1,)], [(1,)], [(1,)]])
        self.assertEqual([reached_by(free, shut, [[1]], d) for d in range(4)], [[(1,)], [(1,)], [], []])
        self.assertEqual([lost_by(free, shut, [[0]], d) for d in range(3)], [[], [(1,)], [(1,)]])
        self.assertEqual(row_sent(free, shut, [[1]], 400, [1]), (0,))
        self.assertEqual(lost_by(free, free, [[1]], 400), [])

    def test_wrong_inputs_in_sequence(self):
        calls = [(row_sent, (-1, None)), (lost_by, (-1,)), (reached_by, (-1,))]
        for function, more in calls + [(is_map, ()), (bent, ())]:
            for wrong in (None, 0, "x", [free_book(2, 1)]):
                self.refuses(NO_BOOK, function, wrong, None, None, *more)
                self.refuses(NO_BOOK, function, free_book(2, 9), wrong, None, *more)
            self.refuses(("BadBook", "prime"), function, free_book(2, 9), free_book(3, 9), None, *more)
        one, other = exchange_book(3, 2), free_book(3, 3)
        right = [[1, 1, 0], [2, 2, 0]]
        for function, more in calls:
            for wrong in (None, 0, [], [[1, 0, 0]], [[0, 0, 0], [0, 0, True]], [[0, 0], [0, 0], [0, 0]], "ab"):
                self.refuses("BadTable", function, one, other, wrong, *more)
            self.refuses("BadMap", function, one, other, [[1, 1, 0], [2, 1, 0]], *more)
            for wrong in NUMBERS_NOT + (-1,):
                self.refuses(number("length"), function, one, other, right, wrong, *more[1:])
            # Either size: three letters have more words than two.
            self.refuses(MANY, function, one, other, right, 7, *more[1:])
            self.refuses(MANY, function, free_book(3, 3), exchange_book(3, 2), [[0, 0]] * 3, 7, *more[1:])
            self.refuses(MANY, function, one, other, right, 10 ** 9, *more[1:])
        for wrong in (None, [1, 2, 3], [1] * 9, [1, 2, 3, True], "abcd"):
            self.refuses("BadRow", row_sent, one, other, right, 2, wrong)
        for wrong in (None, 0, [], [[1]] * 5, [[1]] * 7, [[]] * 6, [[1]] * 5 + [[True]], [[1]] * 5 + [[1, 2]], [1] * 6):
            self.refuses("BadTable", bent, one, other, wrong)

    def test_too_many_tables(self):
        for wrong in (None, 0, "x", [free_book(2, 1)]):
            self.refuses(NO_BOOK, letter_maps, wrong, None)
            self.refuses(NO_BOOK, letter_maps, free_book(2, 9), wrong)
            self.refuses(NO_BOOK, keepers, wrong)
        self.refuses(("BadBook", "prime"), letter_maps, free_book(2, 9), free_book(3, 9))
        self.refuses(MANY, letter_maps, free_book(2, 2), free_book(2, 5))
        self.refuses(MANY, letter_maps, free_book(97, 1), free_book(97, 2))
        self.refuses(MANY, keepers, free_book(7, 2))
        self.refuses(MANY, keepers, free_book(2, 4))
        self.assertEqual(len(letter_maps(Rules(2, 1, []), free_book(2, 9))), 512)
        self.assertEqual(len(letter_maps(free_book(31, 1), shut_book(31, 2))), 961)


if __name__ == "__main__":
    unittest.main()
