import unittest

import plain
from asking import NUMBERS_NOT, Asks, number
from ruleshadows.books import exchange_book, free_book, minus_book, shut_book
from ruleshadows.ladders import fits
from ruleshadows.webs import shut_web, web_book, web_lots
from samples import longest, told_book
from tidysamples import lots_of
from websamples import WRONG_LINES, WRONG_NOTHINGS, linked, pairs_of, webs


class Webs(Asks, unittest.TestCase):
    def test_rules(self):
        for prime, letters, lines, nothings in webs():
            rules = [{(b, a): 1, (a, b): -weight} for a, b, weight in lines] + [{(a, a): 1} for a in nothings]
            self.assertEqual(web_book(prime, letters, lines, nothings), told_book(prime, letters, rules))
            for a, b in pairs_of(letters):
                if not linked(lines, a, b):
                    rules += [{(a, b): 1}, {(b, a): 1}]
            self.assertEqual(shut_web(prime, letters, lines, nothings), told_book(prime, letters, rules))

    def test_examples(self):
        every = [[a, b, 1] for a, b in pairs_of(4)]
        self.assertEqual(web_book(5, 4, every, []), exchange_book(5, 4))
        self.assertEqual(shut_web(5, 4, every, []), exchange_book(5, 4))
        self.assertEqual(web_book(5, 4, [(a, b, -1) for a, b in pairs_of(4)], (3, 1, 0, 2)), minus_book(5, 4))
        self.assertEqual(web_book(5, 4, [], []), free_book(5, 4))
        self.assertEqual(shut_web(5, 4, (), (0, 1, 2, 3)), shut_book(5, 4))
        self.assertEqual(web_book(3, 2, [[0, 1, -1]], [1]), told_book(3, 2, [{(1, 0): 1, (0, 1): 1}, {(1, 1): 1}]))
        self.assertEqual(len(web_book(97, 9, [[a, b, 96] for a, b in pairs_of(9)], list(range(9))).rules), 45)

    def test_lots(self):
        for _, letters, lines, _ in webs():
            wanted = sorted(lot for lot in lots_of(letters)
                            if all(linked(lines, a, b) for a in lot for b in lot if a < b))
            self.assertEqual(web_lots(letters, lines), wanted)
            other = [[a, b, 0] for a, b, _ in lines]
            self.assertEqual(web_lots(letters, other), wanted)
        self.assertEqual(web_lots(3, [[1, 2, 7]]), [(), (0,), (1,), (1, 2), (2,)])
        self.assertEqual(web_lots(2, []), [(), (0,), (1,)])
        self.assertEqual(len(web_lots(9, [[a, b, -5] for a, b in pairs_of(9)])), 512)

    def test_heart_all_webs_fit(self):
        for prime, letters, lines, nothings in webs():
            most = longest(free_book(2, letters)) + 1 if letters < 4 else 4
            self.assertIs(fits(web_book(prime, letters, lines, nothings), most), True, (letters, lines, nothings))
            self.assertIs(fits(shut_web(prime, letters, lines, nothings), most), True, (letters, lines, nothings))

    def test_lines_in_any_sequence_and_of_equal_weights(self):
        for prime, letters, lines, nothings in webs():
            other = [(a, b, weight - prime) for a, b, weight in lines[::-1]]
            for function in (web_book, shut_web):
                self.assertEqual(function(prime, letters, other, nothings[::-1]),
                                 function(prime, letters, lines, nothings))

    def test_wrong_inputs_in_sequence(self):
        for function in (web_book, shut_web):
            for wrong in NUMBERS_NOT + (0, 4, 98):
                self.refuses("BadPrime", function, wrong, 0, None, None)
            for wrong in NUMBERS_NOT + (0, 10):
                self.refuses(number("letters"), function, 3, wrong, None, None)
            for wrong in WRONG_LINES:
                self.refuses("BadWeb", function, 3, 3, wrong, [])
            for wrong in WRONG_NOTHINGS:
                self.refuses("BadWeb", function, 3, 3, [[0, 1, 1]], wrong)
            for wrong in (0, 3, -6):
                self.refuses("BadWeb", function, 3, 3, [[0, 2, 1], [0, 1, wrong]], [])
            self.assertEqual(len(function(5, 3, [[0, 1, 3]], []).rules), 1 if function is web_book else 5)
        for wrong in NUMBERS_NOT + (0, 10):
            self.refuses(number("letters"), web_lots, wrong, None)
        for wrong in WRONG_LINES:
            self.refuses("BadWeb", web_lots, 3, wrong)
        self.assertEqual(plain.rank(3, web_book(3, 3, [[0, 1, 4]], []).rules), 1)


if __name__ == "__main__":
    unittest.main()
