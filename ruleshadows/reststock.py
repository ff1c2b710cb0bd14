"""The rests of one rule book, worked out length by length."""

from ruleshadows.solving import put_times, room_of, sparse
from ruleshadows.words import spelled


def followed(letters, prime, row, letter, steps):
    """The sum of the steps of this letter, one for each number of the row; that of k stands at k * letters + letter."""
    total = {}
    for k, number in row.items():
        put_times(prime, total, number, steps[k * letters + letter])
    return total


class RestStock:
    """What is known of the rests of a rule book; made anew for each call, so that nothing is kept between calls.

    The rest words of a length are numbered from 0 on, ascending. A row over them is a dict from these
    numbers. Each rest word of length n + 1 is one of length n followed by a letter, and a letter followed by
    one of length n: so only such pairs need to be looked at.
    """

    def __init__(self, book):
        self.prime = book.prime
        self.letters = book.letters
        self._rules = [sparse(book.prime, row) for row in book.rules]
        self._sizes = [1]
        self._spots = [[0]]
        self._numbers = [{0: 0}]
        self._pairs = [[0]]
        self._rights = []
        self._lefts = []

    def _reach(self, length):
        while len(self._spots) <= length:
            self._grow()

    def _end_rows(self):
        """What the rules at the end of one length more make nothing, by pairs of a rest word and a letter."""
        rows = []
        many = len(self._spots[-2]) if len(self._spots) > 1 else 0
        for k in range(many):
            for rule in self._rules:
                row = {}
                for at, number in rule.items():
                    ahead = self._rights[-1][k * self.letters + at // self.letters]
                    pairs = {m * self.letters + at % self.letters: ahead[m] for m in ahead}
                    put_times(self.prime, row, number, pairs)
                rows.append(row)
        return rows

    def _grow(self):
        letters = self.letters
        old = self._spots[-1]
        pivots = room_of(self.prime, self._end_rows())
        kept = [at for at in range(len(old) * letters) if at not in pivots]
        numbers = {at: k for k, at in enumerate(kept)}
        rights = []
        for at in range(len(old) * letters):
            if at in pivots:
                row = pivots[at]
                rights.append({numbers[place]: self.prime - row[place] for place in row if place != at})
            else:
                rights.append({numbers[at]: 1})
        spots = [old[at // letters] * letters + at % letters for at in kept]
        self._sizes.append(self._sizes[-1] * letters)
        self._spots.append(spots)
        self._numbers.append({spot: k for k, spot in enumerate(spots)})
        self._pairs.append(kept)
        self._rights.append(rights)

    def many(self, length):
        """How many rest words of this length there are."""
        self._reach(length)
        return len(self._spots[length])

    def spots(self, length):
        """The spots of the rest words of this length, ascending."""
        self._reach(length)
        return self._spots[length]

    def word(self, length, k):
        """The rest word with the number k."""
        return spelled(self.letters, length, self.spots(length)[k])

    def right_rows(self, length):
        """The row of rest word k of this length followed by the letter a, at k * letters + a."""
        self._reach(length + 1)
        return self._rights[length]

    def left_rows(self, length):
        """The row of the letter a followed by rest word k of this length, at k * letters + a."""
        while len(self._lefts) <= length:
            self._lefts.append(self._next_lefts(len(self._lefts)))
        return self._lefts[length]

    def _next_lefts(self, length):
        rights = self.right_rows(length)
        if length == 0:
            return rights
        letters = self.letters
        shorter = self._lefts[length - 1]
        return [
            followed(letters, self.prime, shorter[at // letters * letters + a], at % letters, rights)
            for at in self._pairs[length]
            for a in range(letters)
        ]

    def side_rows(self, length, side):
        """The rows of a letter ahead of each rest word (side 0), behind it (side 1), at k * letters + letter."""
        if side == 0:
            return self.left_rows(length)
        return self.right_rows(length)

    def peeled(self, length, k, side):
        """The first (side 0) or last letter of rest word k, and the number of what else it has."""
        self._reach(length)
        if side == 1:
            pair = self._pairs[length][k]
            return (pair % self.letters, pair // self.letters)
        size = self._sizes[length - 1]
        spot = self._spots[length][k]
        return (spot // size, self._numbers[length - 1][spot % size])

    def word_rows(self, length):
        """The row of the rest of each word of this length, by its spot."""
        rows = [{0: 1}]
        for shorter in range(length):
            rights = self.right_rows(shorter)
            rows = [followed(self.letters, self.prime, row, a, rights) for row in rows for a in range(self.letters)]
        return rows

    def product(self, first, k, second, other):
        """The row of rest word k of the first length beside rest word other of the second length."""
        row = {k: 1}
        for index, letter in enumerate(self.word(second, other)):
            row = followed(self.letters, self.prime, row, letter, self.right_rows(first + index))
        return row

    def spread(self, length, row):
        """A row over the rest words of this length as one over all words, by their spots."""
        spots = self.spots(length)
        return {spots[k]: number for k, number in row.items()}
