import unittest

from asking import NO_BOOK, Asks
from ruleshadows.books import Rules, exchange_book, free_book, minus_book, shut_book
from ruleshadows.checks import PRIMES
from ruleshadows.shadows import shadow
from ruleshadows.texts import book_of_text, book_text
from samples import Numbers, chance_book, few_books, small_books, told
from test_classes import all_rooms

TEXTS_NOT = (None, True, 0, b"book 2 1", ["book 2 1"], ("book 2 1",), free_book(2, 1), {})


def plain_text(book):
    return "\n".join(["book " + str(book.prime) + " " + str(book.letters)]
                     + ["rule " + " ".join(str(x) for x in rule) for rule in book.rules])


def bad(at):
    return ("BadText", at)


class Texts(Asks, unittest.TestCase):
    def test_there_and_back(self):
        more = [free_book(97, 9), shut_book(2, 9), exchange_book(97, 9), chance_book(97, 9, 40, 1)]
        for book in small_books() + more:
            text = book_text(book)
            self.assertEqual(text, plain_text(book))
            self.assertEqual(book_of_text(text), book, told(book))
            self.assertEqual(book_text(book_of_text(text=text)), text)

    def test_by_hand(self):
        self.assertEqual(book_text(exchange_book(3, 2)), "book 3 2\nrule 0 1 2 0")
        self.assertEqual(book_text(free_book(97, 4)), "book 97 4")
        self.assertEqual(book_text(shut_book(2, 1)), "book 2 1\nrule 1")
        self.assertEqual(book_text(minus_book(5, 2)), "book 5 2\nrule 1 0 0 0\nrule 0 1 1 0\nrule 0 0 0 1")
        self.assertEqual(book_of_text("book 5 2\nrule 1 0 4 0\nrule 0 0 0 1"),
                         Rules(5, 2, [[1, 0, 4, 0], [0, 0, 0, 1]]))

    def test_wrong_first_lines(self):
        for text in ("", " ", "book", "book ", "book 3", "book 3 ", "book 3 2 ", " book 3 2", "book  3 2", "book 3  2",
                     "Book 3 2", "book 4 2", "book 1 2", "book 0 2", "book 101 2", "book 99 2", "book 3 0", "book 3 10",
                     "book 03 2", "book 3 02", "book +3 2", "book 3 -2", "book 3 2 1", "book 3 2\r", "book 3\t2",
                     "rule 1", "book \u0663 2", "book 3 \u00b2", "book three 2", "book 3.0 2", "book 3 2 / 1",
                     "\nbook 3 2", "book" + "9" * 6000, "book " + "9" * 6000 + " 2", "book 1_1 2"):
            self.refuses(bad(0), book_of_text, text)
            self.refuses(bad(0), book_of_text, text + "\nrule 1 0 0 0")
        for wrong in TEXTS_NOT:
            self.refuses(bad(0), book_of_text, wrong)

    def test_wrong_lines_behind(self):
        head = "book 3 2\nrule 1 0 0 2\nrule 0 0 1 1"
        self.assertEqual(book_of_text(head), Rules(3, 2, [[1, 0, 0, 2], [0, 0, 1, 1]]))
        for line in ("", " ", "rule", "rule ", "rule 0 0 0 1 ", "rule 0 0 0  1", " rule 0 0 0 1", "Rule 0 0 0 1",
                     "0 0 0 1", "rule 0 0 1", "rule 0 0 0 0 1", "rule 0 0 0 0", "rule 0 0 0 2", "rule 0 0 0 3",
                     "rule 0 0 0 01", "rule 0 1 0 0", "rule 0 0 1 0", "rule 1 0 0 0", "rule 0 0 0 1", "rule 0 0 0 -1",
                     "rule 0 0 0 x", "book 3 2", "rule 0 0 / 0 1", "rule\t0 0 0 1", "rule 0 0 0 \u0661"):
            self.refuses(bad(3), book_of_text, head + "\n" + line)
            self.refuses(bad(3), book_of_text, head + "\n" + line + "\n" + "rule 0 0 0 1")
        self.refuses(bad(1), book_of_text, "book 3 2\n")
        self.refuses(bad(2), book_of_text, "book 3 1\nrule 1\nrule 1")
        # A number at the first place of the next rule; a rule that begins with 2; the last one in the wrong sequence.
        self.refuses(bad(2), book_of_text, "book 3 2\nrule 1 1 0 0\nrule 0 1 0 0")
        self.refuses(bad(1), book_of_text, "book 3 2\nrule 2 1 0 0")
        self.refuses(bad(2), book_of_text, "book 3 2\nrule 0 1 0 0\nrule 1 0 0 0")
        # All but one of the places are taken.
        full = book_text(shut_book(2, 3))
        self.refuses(bad(10), book_of_text, full + "\nrule 0 0 0 0 0 0 0 0 1")
        self.refuses(bad(9), book_of_text, full.replace("rule 0 0 0 0 0 0 0 0 1", "rule 0 0 0 0 0 0 0 1 1"))

    def test_wrong_at_any_place_by_all_texts(self):
        books = [Rules(prime, letters, rules) for prime in (2, 3) for letters, all_rules in (
            (1, [(), ((1,),)]), (2, [rules for many in range(5) for rules in all_rooms(prime, many)]))
            for rules in all_rules]
        heads = {tuple(book_text(book).split("\n")[:k]) for book in books for k in range(1, 6)}
        texts, numbers = {book_text(book) for book in books}, Numbers(5)
        self.assertEqual(len(texts), 2 + 67 + 2 + 212)
        others = {f"book {prime} {letters}" for prime in PRIMES for letters in range(1, 10) if prime > 3 or letters > 2}
        wrong = 0
        every = sorted(texts)
        for _ in range(6000):
            text = self.spoiled(every[numbers.below(len(every))], numbers)
            lines = text.split("\n")
            if text in texts:
                self.assertEqual(book_text(book_of_text(text)), text)
            elif lines[0] not in others:
                wrong += 1
                at = next(k for k in range(len(lines)) if tuple(lines[:k + 1]) not in heads)
                self.refuses(bad(at), book_of_text, text)
        self.assertGreater(wrong, 3000)

    def spoiled(self, text, numbers):
        """A text with a sign, or a line, exchanged for another one, left out or put in."""
        way, signs = numbers.below(6), "0123 \n/bookrule"
        if way < 3:
            at = numbers.below(len(text) + 1)
            return text[:at] + (signs[numbers.below(len(signs))] if way else "") + text[at + (way < 2):]
        lines = text.split("\n")
        at = numbers.below(len(lines))
        if way == 3:
            lines[at] = "rule " + " ".join(str(numbers.below(3)) for _ in range(4))
        elif way == 4:
            del lines[at]
        else:
            lines.insert(at, lines[numbers.below(len(lines))])
        return "\n".join(lines)

    def test_wrong_books(self):
        for wrong in (None, 0, "book 3 2", [free_book(2, 1)], (2, 1, ())):
            self.refuses(NO_BOOK, book_text, wrong)
        for book in few_books():
            self.assertIs(book_text(book) == book_text(shadow(book)), book == shadow(book))


if __name__ == "__main__":
    unittest.main()
