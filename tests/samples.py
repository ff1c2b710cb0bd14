"""Rule books for the tests: the same ones in each run."""

from ruleshadows.books import Rules, exchange_book, free_book, minus_book, shut_book, weighed_book


class Numbers:
    """Numbers that look as if by chance, always the same ones."""

    def __init__(self, seed):
        self.state = seed * 7919 + 12345

    def below(self, bound):
        self.state = (self.state * 6364136223846793005 + 1442695040888963407) % 2 ** 64
        return (self.state >> 33) % bound

    def row(self, size, bound, thin=1):
        """A row; of thin numbers only about one is not 0."""
        return [self.below(bound) if self.below(thin) == 0 else 0 for _ in range(size)]

    def rows(self, many, size, bound, thin=1):
        return [self.row(size, bound, thin) for _ in range(many)]


def chance_book(prime, letters, many, seed, thin=1):
    """A rule book of at most so many rules."""
    return Rules(prime, letters, Numbers(seed).rows(many, letters * letters, prime, thin))


def chance_row(size, prime, seed):
    return Numbers(seed).row(size, prime)


def chance_table(prime, letters, seed):
    """A letter table that can be undone: one letter after the other gets some of the others."""
    numbers = Numbers(seed)
    table = [[int(a == b) for b in range(letters)] for a in range(letters)]
    for _ in range(3 * letters):
        a, b, times = numbers.below(letters), numbers.below(letters), numbers.below(prime)
        if a != b:
            table[a] = [(x + times * y) % prime for x, y in zip(table[a], table[b])]
    factor = 1 + numbers.below(prime - 1)
    return [[number * factor % prime for number in row] for row in table]


def told_book(prime, letters, rules):
    """The rule book of rules told as dicts from words of two letters to numbers."""
    rows = []
    for rule in rules:
        row = [0] * (letters * letters)
        for (a, b), number in rule.items():
            row[a * letters + b] = number
        rows.append(row)
    return Rules(prime, letters, rows)


def heart_book(prime, q, r):
    """ac + q ca + r bb, bc, cb, cc: counts undo up to 5, and yet something is lost."""
    return told_book(prime, 3, [{(0, 2): 1, (2, 0): q, (1, 1): r}, {(1, 2): 1}, {(2, 1): 1}, {(2, 2): 1}])


def bent_book(prime):
    """aa, and ba less bb: something is lost in length 4."""
    return told_book(prime, 2, [{(0, 0): 1}, {(1, 0): 1, (1, 1): -1}])


def sided_books():
    """Books that lose other numbers on the one side than on the other one, in length 5."""
    return [
        told_book(2, 3, [{(0, 0): 1}, {(1, 0): 1, (1, 1): 1}, {(2, 1): 1}, {(2, 2): 1}]),
        told_book(3, 3, [{(0, 0): 1, (1, 0): 2}, {(1, 1): 1}, {(1, 2): 1, (2, 0): 2}, {(2, 2): 1}]),
    ]


def named_books(prime, letters):
    """Books with names, all of which fit."""
    weights = [[(a + b) % 2 if a == b else 1 + (a + 2 * b) % (prime - 1) if prime > 2 else 1
                for a in range(letters)] for b in range(letters)]
    return [
        free_book(prime, letters), shut_book(prime, letters), exchange_book(prime, letters),
        minus_book(prime, letters), weighed_book(prime, weights),
    ]


def small_books():
    """Some books of one to four letters over several primes, from few rules and from many."""
    found = []
    for prime, letters in ((2, 1), (5, 1), (2, 2), (3, 2), (97, 2), (2, 3), (3, 3), (7, 3), (2, 4), (5, 4)):
        found += named_books(prime, letters)
        for seed, many in enumerate((1, 2, letters * letters // 2, letters * letters - 1)):
            found.append(chance_book(prime, letters, many, 31 * prime + letters + seed))
            found.append(chance_book(prime, letters, many, 57 * prime + letters + seed, thin=2))
    for prime in (2, 3, 5):
        found.append(bent_book(prime))
        found.append(heart_book(prime, 1, prime - 1))
    return found


def few_books():
    """A handful of them, one or two of each sort."""
    return [
        free_book(2, 1), shut_book(3, 1), free_book(3, 2), shut_book(2, 2), exchange_book(3, 2), minus_book(5, 2),
        bent_book(2), bent_book(7), chance_book(5, 2, 1, 4), chance_book(3, 2, 2, 5), chance_book(2, 2, 3, 6),
        exchange_book(2, 3), minus_book(3, 3), heart_book(3, 1, 1), chance_book(5, 3, 2, 7), chance_book(2, 3, 4, 8),
        chance_book(97, 3, 6, 9, thin=2), chance_book(3, 3, 8, 10),
    ]


def longest(book):
    """A length that is small enough for the slow way."""
    return {1: 6, 2: 5, 3: 4, 4: 3}[book.letters]


def told(book):
    """What a test that fails says of the book."""
    return (book.prime, book.letters, book.rules)
