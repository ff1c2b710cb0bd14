"""Tables of letters that keep a book, for the tests."""

import itertools

import plain
from ruleshadows.books import Rules, exchange_book, free_book, minus_book, shut_book
from samples import bent_book, chance_book, chance_table, heart_book, small_books, told_book


def all_tables(prime, rows, columns):
    """All tables there are, ascending."""
    every = list(itertools.product(range(prime), repeat=columns))
    return [tuple(table) for table in itertools.product(every, repeat=rows)]


def plain_keeps(book, table):
    """Whether a letter table can be undone and leads rules to rules."""
    if plain.rank(book.prime, table) < book.letters:
        return False
    return all(plain.within(book.prime, book.rules, plain.led(book.prime, book.letters, 2, rule, table))
               for rule in book.rules)


def joined(prime, one, other):
    """The table that leads by one, then by other."""
    return tuple(tuple(sum(row[k] * other[k][b] for k in range(len(other))) % prime for b in range(len(other[0])))
                 for row in one)


def kept_books():
    """Pairs of a book and some tables that keep it, fitting books and others."""
    found = []
    for book in (bent_book(2), bent_book(3), told_book(3, 2, [{(0, 0): 1, (1, 1): 1}]), chance_book(2, 2, 2, 5),
                 told_book(3, 2, [{(0, 1): 1, (1, 0): 1}, {(0, 0): 1, (1, 1): -1}]), chance_book(3, 2, 1, 4),
                 exchange_book(2, 2), told_book(5, 2, [{(0, 0): 1}])):
        if book.prime < 5:
            some = [table for table in all_tables(book.prime, 2, 2) if plain_keeps(book, table)]
            found.append((book, some[:2] + some[-2:]))
        else:
            found.append((book, [((2, 0), (0, 3)), ((1, 0), (3, 4))]))
    for book in (heart_book(2, 1, 1), minus_book(2, 3)):
        some = [table for table in all_tables(2, 3, 3) if plain_keeps(book, table)]
        found.append((book, some[:2] + some[-1:]))
    for prime, letters in ((5, 1), (3, 2), (97, 3), (2, 4)):
        for book in (free_book(prime, letters), shut_book(prime, letters), exchange_book(prime, letters)):
            found.append((book, [chance_table(prime, letters, seed) for seed in (1, 2)]))
    scaled = [book for book in small_books() if book.letters in (2, 3) and book.prime > 2][::4]
    for book in scaled:
        times = book.prime - 1
        found.append((book, [[[times * int(a == b) for b in range(book.letters)] for a in range(book.letters)]]))
    return found + [(Rules(7, 2, [[0, 1, 2, 0]]), [((3, 0), (0, 4)), ((1, 0), (0, 6))])]
