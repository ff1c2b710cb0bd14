"""Books with lower parts for the tests, and what they make nothing the plain way: by full long rows."""

import plain
from ruleshadows.books import exchange_book, free_book, minus_book, shut_book
from ruleshadows.lowered import Lowered, unlowered
from samples import Numbers, bent_book, chance_book, few_books, heart_book, told_book


def long_words(letters, length):
    return [word for size in range(length, -1, -1) for word in plain.words(letters, size)]


def spelled(letters, length, told):
    """A long row of numbers told by words."""
    return tuple(told.get(word, 0) for word in long_words(letters, length))


def lowered_rules(lowered):
    """The lowered rules as dicts from words to numbers."""
    letters, found = lowered.book.letters, []
    for rule, total, number in zip(lowered.book.rules, lowered.sums, lowered.numbers):
        told = {word: x for word, x in zip(plain.words(letters, 2), rule)}
        told.update({(a,): -x for a, x in enumerate(total)})
        told[()] = -number
        found.append(told)
    return found


def plain_nothing(lowered, length):
    """The tidy list of all lowered rules with words around them, up to this length; each worked out once."""
    key = told_lowered(lowered) + (length,)
    if key not in FOUND:
        letters, rows = lowered.book.letters, []
        for size in range(length - 1):
            for cut in range(size + 1):
                for ahead in plain.words(letters, cut):
                    for behind in plain.words(letters, size - cut):
                        for rule in lowered_rules(lowered):
                            told = {ahead + word + behind: x for word, x in rule.items()}
                            rows.append(spelled(letters, length, told))
        FOUND[key] = plain.gauss(lowered.book.prime, rows)
    return FOUND[key]


FOUND = {}


def plain_beside(letters, first, one, second, other):
    told = {}
    for ahead, x in zip(long_words(letters, first), one):
        for behind, y in zip(long_words(letters, second), other):
            told[ahead + behind] = told.get(ahead + behind, 0) + x * y
    return spelled(letters, first + second, told)


def bracket(prime, letters, rows):
    """Of exchange_book: ab less ba is the row of a, b, for all a below b."""
    book = exchange_book(prime, letters)
    # Each rule is ab less ba for some a below b: its first word tells which one.
    pairs = [(a, b) for a in range(letters) for b in range(a + 1, letters)]
    heads = [plain.words(letters, 2)[plain.first(rule)] for rule in book.rules]
    return Lowered(book, [rows[pairs.index(head)] for head in heads], [0] * len(pairs))


def formed(prime, form):
    """Of minus_book: ab plus ba is form[a][b] for a below b, aa is form[a][a]."""
    letters = len(form)
    book = minus_book(prime, letters)
    heads = [plain.words(letters, 2)[plain.first(rule)] for rule in book.rules]
    return Lowered(book, [[0] * letters for _ in heads], [form[a][b] for a, b in heads])


def twisted(prime, form):
    """Of exchange_book: ab less ba is form[a][b] for a below b."""
    letters = len(form)
    book = exchange_book(prime, letters)
    heads = [plain.words(letters, 2)[plain.first(rule)] for rule in book.rules]
    return Lowered(book, [[0] * letters for _ in heads], [form[a][b] for a, b in heads])


def losing_example(prime):
    """aa + ab = 1, bb = 0: nothing is lost at three letters, something at four."""
    return Lowered(told_book(prime, 2, [{(0, 0): 1, (0, 1): 1}, {(1, 1): 1}]), [[0, 0], [0, 0]], [1, 0])


def chance_lowered(book, seed, thin=1):
    numbers = Numbers(seed)
    many = len(book.rules)
    return Lowered(book, numbers.rows(many, book.letters, book.prime, thin), numbers.row(many, book.prime, thin))


def moved_plainly(lowered, moves):
    """Each letter of each lowered rule moved, word by word: the sums and the numbers."""
    letters, prime = lowered.book.letters, lowered.book.prime
    sums, numbers = [], []
    for rule in lowered_rules(lowered):
        told = {}
        for word, x in rule.items():
            parts = [((), x)]
            for letter in word:
                kept = [(ahead + (letter,), y) for ahead, y in parts]
                parts = kept + [(ahead, y * moves[letter]) for ahead, y in parts]
            for found, y in parts:
                told[found] = told.get(found, 0) + y
        sums.append(tuple(-told.get((a,), 0) % prime for a in range(letters)))
        numbers.append(-told.get((), 0) % prime)
    return tuple(sums), tuple(numbers)


def moved_from(book, seed):
    """An unlowered book with its letters moved: it loses nothing."""
    moves = Numbers(seed).row(book.letters, book.prime)
    return Lowered(book, *moved_plainly(unlowered(book), moves))


def some_lowered():
    """Books of one to four letters: with a step and without one, losing nothing, at three letters, or later."""
    found = [losing_example(prime) for prime in (2, 3, 97)]
    for seed, book in enumerate(few_books()):
        found.append(unlowered(book))
        found.append(moved_from(book, seed))
        found.append(chance_lowered(book, seed + 50, 1 + seed % 3))
    # Three letters whose brackets fulfil what is asked, and such that do not.
    found.append(bracket(5, 3, [[0, 0, 1], [0, -1, 0], [1, 0, 0]]))
    found.append(bracket(3, 3, [[0, 0, 1], [0, 0, 0], [0, 0, 0]]))
    found.append(bracket(7, 3, [[1, 0, 0], [0, 1, 0], [0, 0, 0]]))
    found.append(bracket(2, 2, [[0, 1]]))
    found.append(bracket(97, 4, [[0, 1, 0, 0]] + [[0, 0, 0, 0]] * 5))
    found.append(formed(3, [[1, 2, 0], [0, 0, 1], [0, 0, 2]]))
    found.append(formed(2, [[1, 1], [0, 1]]))
    found.append(formed(5, [[1, 0, 0, 2], [0, 1, 0, 0], [0, 0, 1, 3], [0, 0, 0, 1]]))
    found.append(twisted(3, [[0, 1, 0], [0, 0, 2], [0, 0, 0]]))
    found.append(twisted(2, [[0, 1], [0, 0]]))
    for seed, book in enumerate((free_book(2, 4), shut_book(3, 4), chance_book(2, 4, 3, 1), exchange_book(3, 4),
                                 bent_book(3), heart_book(2, 1, 1), heart_book(3, 2, 1))):
        found.append(chance_lowered(book, seed + 90, 3))
        found.append(moved_from(book, seed + 9))
    return found


def longest_up_to(lowered):
    """A length that is small enough for the plain way."""
    return {1: 6, 2: 5, 3: 4, 4: 3}[lowered.book.letters]


def told_lowered(lowered):
    return (lowered.book.prime, lowered.book.letters, lowered.book.rules, lowered.sums, lowered.numbers)
