"""What the rules at all places have in common, worked out length by length."""

from ruleshadows.solving import dark_rows, put, put_times, sparse


class CommonStock:
    """What is known of the common rooms of a rule book; made anew for each call.

    Each row of the common room of length n + 1 is a sum of rows of that of length n followed by letters. It
    is kept as a dict from k * letters + a (row k, letter a). These dicts are tidy exactly if the rows are.
    """

    def __init__(self, book):
        self.prime = book.prime
        self.letters = book.letters
        size = book.letters * book.letters
        self._darks = [[] for _ in range(book.letters)]
        told = dark_rows(book.prime, size, [sparse(book.prime, row) for row in book.rules])
        for t, row in enumerate(told):
            for at, number in row.items():
                self._darks[at // book.letters].append((t, at % book.letters, number))
        # The one row of length 0 is no row followed by a letter; of it only that there is one is asked.
        self._rows = [[{0: 1}], [{a: 1} for a in range(book.letters)]]
        self._heads = [[]]

    def _reach(self, length):
        while len(self._rows) <= length:
            self._rows.append(self._next_rows())

    def _next_rows(self):
        """A sum of rows followed by letters is common exactly if the last two letters are told 0 by all told."""
        letters = self.letters
        conditions = {}
        for k, row in enumerate(self._rows[-1]):
            for at, number in row.items():
                for t, a, told in self._darks[at % letters]:
                    condition = conditions.setdefault((at // letters, t), {})
                    put(self.prime, condition, k * letters + a, number * told)
        return dark_rows(self.prime, len(self._rows[-1]) * letters, list(conditions.values()))

    def many(self, length):
        """How many rows the common room of this length has."""
        self._reach(length)
        return len(self._rows[length])

    def full_rows(self, length):
        """The tidy list of the common room of this length, by spots."""
        self._reach(length)
        full = [{0: 1}]
        for longer in range(1, length + 1):
            full = [self._spread(full, row) for row in self._rows[longer]]
        return full

    def _spread(self, shorter, row):
        total = {}
        for at, number in row.items():
            k, a = at // self.letters, at % self.letters
            put_times(self.prime, total, number, {spot * self.letters + a: shorter[k][spot] for spot in shorter[k]})
        return total

    def off_rows(self, step, side):
        """For each row w and each letter a the dict of what tells w_a by the rows of one letter less."""
        self._reach(step)
        if side == 0:
            while len(self._heads) <= step:
                self._heads.append(self._next_heads(len(self._heads)))
            return self._heads[step]
        letters = self.letters
        return [
            [{at // letters: row[at] for at in row if at % letters == a} for a in range(letters)]
            for row in self._rows[step]
        ]

    def _next_heads(self, step):
        """The first letters taken off; what is left is told by its numbers at the first places of the rows."""
        if step == 1:
            return [[{0: 1} if a == k else {} for a in range(self.letters)] for k in range(self.letters)]
        firsts = {min(list(row)): i for i, row in enumerate(self._rows[step - 1])}
        return [[self._head_off(step, row, a, firsts) for a in range(self.letters)] for row in self._rows[step]]

    def _head_off(self, step, row, letter, firsts):
        total = {}
        for at, number in row.items():
            k, b = at // self.letters, at % self.letters
            for m, told in self._heads[step - 1][k][letter].items():
                place = m * self.letters + b
                if place in firsts:
                    put(self.prime, total, firsts[place], number * told)
        return total
