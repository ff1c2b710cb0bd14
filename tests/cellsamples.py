"""Cells that keep two books, cells that do not, and what they lead words to the plain way: word by word."""

import itertools

import plain
from keepsamples import all_tables, plain_keeps
from restsamples import dark_of, rest_of, rests_of, unit_of
from ruleshadows.books import exchange_book, free_book, minus_book, shut_book
from ruleshadows.keeping import keeping_book, plain_cells
from samples import Numbers, bent_book, chance_book, heart_book, told, told_book


def chance_cells(one, other, third, length, seed, thin=1):
    numbers = Numbers(seed)
    size = third.letters ** length
    return [[numbers.row(size, third.prime, thin) for _ in range(other.letters)] for _ in range(one.letters)]


def beside_cells(third, cells, word, ahead):
    """The cells of a word of one and a word of other, one behind the other, as a row of all words."""
    found = (1,)
    for a, c in zip(word, ahead):
        found = plain.beside(third.prime, found, cells[a][c])
    return found


def plainly_keep(one, other, third, length, cells):
    """Whether each rule is led to nothing: told by each row that tells 0 of all rules of other."""
    size = third.letters ** (2 * length)
    for rule in one.rules:
        for told_row in dark_of(other):
            total = [0] * size
            for number, word in zip(rule, plain.words(one.letters, 2)):
                for times, ahead in zip(told_row, plain.words(other.letters, 2)):
                    if number and times:
                        row = beside_cells(third, cells, word, ahead)
                        total = [x + number * times * y for x, y in zip(total, row)]
            if any(rest_of(third, 2 * length, total)):
                return False
    return True


def plainly_led(one, other, third, length, cells, many, row):
    """What stands beside each rest word of other, all words written out and put to their rests at the end."""
    every, kept = plain.words(other.letters, many), rests_of(other, many)
    found = {word: [0] * third.letters ** (length * many) for word in kept}
    for ahead in every:
        left = rest_of(other, many, unit_of(other.letters, ahead))
        for number, word in zip(row, plain.words(one.letters, many)):
            if not number:
                continue
            made = beside_cells(third, cells, word, ahead)
            for rest_word in kept:
                times = number * left[every.index(rest_word)]
                if times:
                    found[rest_word] = [x + times * y for x, y in zip(found[rest_word], made)]
    return [rest_of(third, length * many, found[word]) for word in kept]


def plainly_sent(one, other, third, length, cells, many, row):
    """The row with each letter exchanged for its cell, word by word."""
    total = [0] * third.letters ** (length * many)
    for number, word in zip(row, plain.words(one.letters * other.letters, many)):
        if number:
            made = (1,)
            for pair in word:
                made = plain.beside(third.prime, made, cells[pair // other.letters][pair % other.letters])
            total = [x + number * y for x, y in zip(total, made)]
    return rest_of(third, length * many, total)


def few_twos():
    """Pairs of books over one prime with four pairs of letters at the most, and a few with six."""
    found = [(free_book(2, 1), shut_book(2, 1)), (shut_book(3, 1), free_book(3, 1)), (shut_book(5, 1), shut_book(5, 1)),
             (free_book(3, 1), free_book(3, 1)), (exchange_book(3, 2), exchange_book(3, 2)),
             (exchange_book(5, 2), minus_book(5, 2)), (minus_book(2, 2), bent_book(2)), (bent_book(3), free_book(3, 1)),
             (shut_book(2, 1), chance_book(2, 3, 4, 3)), (chance_book(3, 2, 2, 5), chance_book(3, 2, 1, 6)),
             (free_book(2, 2), exchange_book(2, 2)), (shut_book(2, 2), shut_book(2, 1)),
             (told_book(7, 2, [{(0, 1): 1, (1, 0): -3}]), told_book(7, 2, [{(0, 0): 1}])),
             (heart_book(2, 1, 1), shut_book(2, 1)), (exchange_book(2, 3), exchange_book(2, 1)),
             (chance_book(2, 2, 1, 9), chance_book(2, 3, 5, 4)), (chance_book(3, 3, 2, 8), chance_book(3, 2, 2, 2))]
    return found


def led_cells(one, other, seed):
    """Cells that keep: the letters of the keeping book, those of one led by a table that keeps it."""
    tables = [table for table in all_tables(one.prime, one.letters, one.letters) if plain_keeps(one, table)]
    table, cells = tables[seed % len(tables)], plain_cells(one, other)
    return [[plain.summed(one.prime, [line[c] for line in cells], table[a], len(cells[0][0]))
             for c in range(other.letters)] for a in range(one.letters)]


def some_cells():
    """Tuples of one, other, third, a length and cells; some keep, some do not."""
    found = []
    for seed, (one, other) in enumerate(few_twos()):
        prime, pairs = one.prime, one.letters * other.letters
        if pairs < 5:
            keeping = keeping_book(one, other)
            found.append((one, other, keeping, 1, plain_cells(one, other)))
            if prime ** (one.letters ** 2) < 100:
                found.append((one, other, keeping, 1, led_cells(one, other, seed + 1)))
        for length, third in ((0, free_book(prime, 3)), (0, bent_book(prime)), (1, shut_book(prime, 2)),
                              (1, minus_book(prime, 2)), (1, chance_book(prime, 2, 2, seed)), (2, minus_book(prime, 2)),
                              (2, exchange_book(prime, 1)), (1, free_book(prime, 2)), (2, bent_book(prime))):
            found.append((one, other, third, length, chance_cells(one, other, third, length, seed + length, 1)))
            found.append((one, other, third, length, chance_cells(one, other, third, length, seed, 3)))
    for length, third in ((1, exchange_book(3, 2)), (2, free_book(3, 1))):
        one = other = free_book(3, 1)
        found.append((one, other, third, length, [[(0,) * third.letters ** length]]))
    return found


def all_cells(one, other, third, length):
    """All cells there are."""
    rows = list(itertools.product(range(third.prime), repeat=third.letters ** length))
    lines = list(itertools.product(rows, repeat=other.letters))
    return list(itertools.product(lines, repeat=one.letters))


def told_cells(one, other, third, length, cells):
    return (told(one), told(other), told(third), length, cells)
