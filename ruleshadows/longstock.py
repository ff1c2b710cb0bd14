"""The long rests of one book with lower parts, worked out length by length."""

from ruleshadows.longs import long_starts, long_word
from ruleshadows.reststock import followed
from ruleshadows.solving import put_times, room_of, sparse


class LongStock:
    """What is known of long rests up to some length; made anew for each call, so that nothing is kept between calls.

    The kept words of the length are numbered in the order of their places. Each of them but () is one of those
    of the length less 1, followed by a letter: so only such words need to be looked at, and () at the end.
    """

    def __init__(self, lowered):
        book = lowered.book
        self.prime = book.prime
        self.letters = book.letters
        self.length = 0
        # The places of the kept words, and for each place of a long row the rest of its word, by kept words.
        self.kept = [0]
        self.rests = [{0: 1}]
        self._parts = []
        for rule, total, number in zip(book.rules, lowered.sums, lowered.numbers):
            self._parts.append((sparse(book.prime, rule), sparse(book.prime, total), number))
        # Pairs of the length and the spot of words that are kept by the length that they have themselves.
        self._fresh = [(0, 0)]

    def reach(self, length):
        """Goes on to this length, from a lesser one."""
        while self.length < length:
            self._grow()

    def _lowered_row(self, starts, start, part):
        """A word, told by its length and its spot, beside a lowered rule: by kept words followed by letters, and ()."""
        letters, prime = self.letters, self.prime
        rule, total, number = part
        size, spot = start
        row = {}
        here = starts[size] + spot
        for at, times in rule.items():
            ahead = self.rests[starts[size + 1] + spot * letters + at // letters]
            put_times(prime, row, times, {k * letters + at % letters: ahead[k] for k in ahead})
        for b, times in total.items():
            put_times(prime, row, -times, {k * letters + b: self.rests[here][k] for k in self.rests[here]})
        if size == 0:
            put_times(prime, row, -number, {len(self.kept) * letters: 1})
        else:
            ahead = self.rests[starts[size - 1] + spot // letters]
            put_times(prime, row, -number, {k * letters + spot % letters: ahead[k] for k in ahead})
        return row

    def _grow(self):
        letters = self.letters
        starts = long_starts(letters, self.length)
        rows = []
        for start in self._fresh:
            if start[0] < self.length:
                rows.extend([self._lowered_row(starts, start, part) for part in self._parts])
        pivots = room_of(self.prime, rows)
        last = len(self.kept) * letters
        left = [at for at in range(last + 1) if at not in pivots]
        numbers = {at: k for k, at in enumerate(left)}
        steps = [_step(self.prime, pivots, numbers, at) for at in range(last + 1)]
        made = [followed(letters, self.prime, row, a, steps) for row in self.rests for a in range(letters)]
        self.rests = made + [steps[last]]
        places = [place * letters + a for place in self.kept for a in range(letters)] + [len(made)]
        self.kept = [places[at] for at in left]
        self.length += 1
        # Words of the new length stand ahead of all others: their places are their spots.
        longest = long_starts(letters, self.length)[self.length - 1]
        self._fresh = self._fresh + [(self.length, place) for place in self.kept if place < longest]

    def spread(self, row):
        """A row over the kept words as one by places."""
        return {self.kept[k]: number for k, number in row.items()}

    def words_kept(self):
        """The kept words in the order of their places."""
        return [long_word(self.letters, self.length, place) for place in self.kept]


def _step(prime, pivots, numbers, at):
    """What is left of a kept word followed by a letter, or of (), by the kept words of one length more."""
    if at in pivots:
        row = pivots[at]
        return {numbers[place]: prime - row[place] for place in row if place != at}
    return {numbers[at]: 1}
