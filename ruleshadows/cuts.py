"""Cut words: words in parts, and what joining parts leads to."""

from ruleshadows.books import check_book
from ruleshadows.checks import MOST_WORDS, check_from, words_many
from ruleshadows.errors import TooMany
from ruleshadows.reststock import RestStock
from ruleshadows.solving import dense, put, rank


class CutStock:
    """The cut words of one rule book; a part is kept as a pair of its length and its number as a rest word."""

    def __init__(self, book, length):
        self.rests = RestStock(book)
        self.length = length
        self._sizes = [k for k in range(1, length + 1) if self.rests.many(k)]
        self._manies = [[1] + [0] * length]
        self._products = {}

    def many(self, parts, length):
        """How many cut words of this length with so many parts there are."""
        if parts > length:
            return 0
        while len(self._manies) <= parts:
            last = self._manies[-1]
            self._manies.append([
                sum([self.rests.many(size) * last[total - size] for size in self._sizes if size <= total])
                for total in range(self.length + 1)
            ])
        return self._manies[parts][length]

    def check(self, parts):
        """Raises TooMany(1000) if there are more cut words than that with so many parts."""
        if self.many(parts, self.length) > MOST_WORDS:
            raise TooMany(MOST_WORDS)

    def cuts(self, parts):
        """All cut words with so many parts, ascending as words in parts."""
        if self.many(parts, self.length) == 0:
            return []
        found = [(0, ())]
        for left in reversed(range(parts)):
            # Only what can be gone on with: so there are never more than there are cut words.
            found = [
                (total + size, cut + ((size, k),))
                for total, cut in found
                for size in self._sizes
                if total + size <= self.length and self.many(left, self.length - total - size)
                for k in range(self.rests.many(size))
            ]
        ranked = sorted([(self.told(cut), cut) for total, cut in found])
        return [pair[1] for pair in ranked]

    def told(self, cut):
        """The cut word as a tuple of words."""
        return tuple([self.rests.word(size, k) for size, k in cut])

    def joined(self, one, other):
        """The row of the rest of one part beside another one."""
        if (one, other) not in self._products:
            self._products[(one, other)] = self.rests.product(one[0], one[1], other[0], other[1])
        return self._products[(one, other)]

    def led(self, cut, numbers):
        """What the cut word is led to, by the numbers of the cut words with a part less."""
        total = {}
        for k in range(len(cut) - 1):
            sign = -1 if k & 1 else 1
            one, other = cut[k], cut[k + 1]
            for at, number in self.joined(one, other).items():
                made = cut[:k] + ((one[0] + other[0], at),) + cut[k + 2:]
                put(self.rests.prime, total, numbers[made], sign * number)
        return total

    def led_rows(self, parts):
        """What all cut words with so many parts are led to."""
        numbers = {cut: k for k, cut in enumerate(self.cuts(parts - 1))}
        return [self.led(cut, numbers) for cut in self.cuts(parts)]


def cut_words(book, length, parts):
    """The ascending list of the cut words of this length with so many parts."""
    _check_cut(book, length, parts, 0)
    words_many(book.letters, length)
    stock = CutStock(book, length)
    stock.check(parts)
    return [stock.told(cut) for cut in stock.cuts(parts)]


def _check_cut(book, length, parts, least):
    check_book(book)
    check_from(length, 0, "length")
    check_from(parts, least, "parts")


def cut_rows(book, length, parts):
    """The rows that lead each cut word with so many parts to cut words with a part less."""
    _check_cut(book, length, parts, 1)
    words_many(book.letters, length)
    stock = CutStock(book, length)
    stock.check(parts - 1)
    stock.check(parts)
    size = stock.many(parts - 1, length)
    return tuple([dense(size, row) for row in stock.led_rows(parts)])


def cut_numbers(book, length):
    """For each number of parts how many more sums are led to 0 than are led to."""
    _check_cut(book, length, 0, 0)
    words_many(book.letters, length)
    stock = CutStock(book, length)
    for parts in range(length + 1):
        stock.check(parts)
    ranks = [0] + [rank(stock.rests.prime, stock.led_rows(parts)) for parts in range(1, length + 1)] + [0]
    return tuple([stock.many(parts, length) - ranks[parts] - ranks[parts + 1] for parts in range(length + 1)])
