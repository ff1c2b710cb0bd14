"""Tidy books with their orders for the tests, and what their plain words tell, word by word."""

import itertools

import plain
from ruleshadows.books import Rules, book_led
from ruleshadows.orders import heads
from ruleshadows.settled import is_tidy
from samples import Numbers, small_books
from test_orders import orders


def word_books():
    """Books whose rules are words: tidy by all orders."""
    found = []
    for seed in range(12):
        numbers = Numbers(seed + 70)
        letters = 1 + seed % 4
        flat = [int(numbers.below(3) == 0) for _ in range(letters * letters)]
        rows = [plain.unit(letters * letters, at) for at, number in enumerate(flat) if number]
        found.append(Rules((2, 3, 5, 97)[seed % 4], letters, rows))
    return found


def bent_along(book, order, seed):
    """The book led by a table that leads each letter to a multiple of itself and of letters behind it in the order."""
    numbers = Numbers(seed)
    table = [[0] * book.letters for _ in range(book.letters)]
    for at, letter in enumerate(order):
        table[letter][letter] = 1 + numbers.below(book.prime - 1)
        for behind in order[at + 1:]:
            table[letter][behind] = numbers.below(book.prime)
    return book_led(book, table)


def tidy_pairs(most=3):
    """Pairs of a book and an order by which it is tidy: at most so many orders of one book."""
    found = []
    for book in small_books() + word_books():
        some = [order for order in orders(book.letters) if is_tidy(book, order)]
        found += [(book, order) for order in some[:most - 1] + some[most - 1:][-1:]]
    for seed, book in enumerate(word_books()):
        order = orders(book.letters)[-1 - seed % 2 if book.letters > 1 else 0]
        found.append((bent_along(book, order, seed), order))
    return found


def untidy_pairs():
    found = []
    for book in small_books():
        found += [(book, order) for order in orders(book.letters)[:2] if not is_tidy(book, order)]
    return found


def plain_many(book, order, length):
    """How many plain words there are, all words looked at."""
    some = heads(book, order)
    return len([word for word in plain.words(book.letters, length)
                if not any(word[k:k + 2] in some for k in range(length - 1))])


def lots_of(many):
    return [lot for size in range(many + 1) for lot in itertools.combinations(range(many), size)]
