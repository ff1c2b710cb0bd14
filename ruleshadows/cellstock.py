"""Cells in the place of letters, word by word."""

from ruleshadows.checks import words_many
from ruleshadows.reststock import RestStock
from ruleshadows.shadows import shadow
from ruleshadows.solving import mixed, put_times, sparse


class CellStock:
    """What is known of cells of one length in a rule book, third; made anew for each call.

    What cells make, one behind the other, is kept by its rest in third: a dict from the numbers of the rest
    words of so many letters.
    """

    def __init__(self, third, length, cells):
        self.prime = third.prime
        self.length = length
        self.rests = RestStock(third)
        words = self.rests.word_rows(length)
        self._cells = [[mixed(third.prime, sparse(third.prime, row), words) for row in line] for line in cells]
        self._products = {}

    def followed(self, many, row, a, c):
        """A row that so many cells have made, followed by the cell a, c."""
        total = {}
        for k, number in row.items():
            for at, times in self._cells[a][c].items():
                put_times(self.prime, total, number * times, self._product(many, k, at))
        return total

    def _product(self, many, k, at):
        key = (many, k, at)
        if key not in self._products:
            self._products[key] = self.rests.product(self.length * many, k, self.length, at)
        return self._products[key]

    def keeping(self, one, other):
        """Whether the cells keep one and other, the letters of which they go between."""
        pairs = {}
        for told in shadow(other).rules:
            tells = sparse(self.prime, told)
            led = [
                self._told_pairs(pairs, other.letters, tells, a, b)
                for a in range(one.letters)
                for b in range(one.letters)
            ]
            if any([mixed(self.prime, sparse(self.prime, rule), led) for rule in one.rules]):
                return False
        return True

    def _told_pairs(self, pairs, letters, tells, a, b):
        """The sum of the cells of a and of b, one behind the other, that tells makes; changes pairs, those known."""
        total = {}
        for at, number in tells.items():
            c, d = at // letters, at % letters
            if (a, c, b, d) not in pairs:
                pairs[(a, c, b, d)] = self.followed(1, self._cells[a][c], b, d)
            put_times(self.prime, total, number, pairs[(a, c, b, d)])
        return total

    def beside_rows(self, others, many, row):
        """What a row of words of so many letters of one is led to: for each rest word of the book whose rests are
        others the row that stands beside it."""
        letters = len(self._cells)
        size = words_many(letters, many)
        # By what is left of the word of one, and the rest word of other so far.
        parts = {(spot, 0): {0: number} for spot, number in row.items()}
        for k in range(many):
            size = size // letters
            steps = others.right_rows(k)
            fresh = {}
            for (spot, end), part in parts.items():
                for c in range(others.letters):
                    led = self.followed(k, part, spot // size, c)
                    for at, number in steps[end * others.letters + c].items():
                        put_times(self.prime, fresh.setdefault((spot % size, at), {}), number, led)
            parts = fresh
        return [parts.get((0, at), {}) for at in range(others.many(many))]

    def sent(self, many, row):
        """A row of words of so many pairs of letters, each of them exchanged for its cell."""
        width = len(self._cells[0])
        pairs = len(self._cells) * width
        size = words_many(pairs, many)
        parts = {spot: {0: number} for spot, number in row.items()}
        for k in range(many):
            size = size // pairs
            fresh = {}
            for spot, part in parts.items():
                pair = spot // size
                led = self.followed(k, part, pair // width, pair % width)
                put_times(self.prime, fresh.setdefault(spot % size, {}), 1, led)
            parts = fresh
        return parts.get(0, {})

    def spread(self, many, row):
        """A row that so many cells have made as one over all words, by their spots."""
        return self.rests.spread(self.length * many, row)
