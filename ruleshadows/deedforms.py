"""Starts and deeds written plainly, and where deeds lead sums and tells."""

from ruleshadows.checks import words_many
from ruleshadows.solving import dense
from ruleshadows.tables import turned_over
from ruleshadows.words import row_led

ROW_DEEDS = ("put", "bar")
SIDE_DEEDS = ("free", "shut", "ahead", "behind")
START_DEEDS = ("join", "meet", "free", "shut", "ahead", "behind")


def plain_row(prime, row):
    """The row as a tuple of numbers from 0 to prime - 1."""
    return tuple([number % prime for number in row])


def plain_rows(prime, rows):
    """The rows as a tuple of such tuples."""
    return tuple([plain_row(prime, row) for row in rows])


def plain_start(start):
    """A start that has been found right, with its lists as tuples and its numbers from 0 to prime - 1."""
    word, prime = start[0], start[1]
    if word == "rules":
        return (word, prime, start[2], plain_rows(prime, start[3]))
    if word == "weighed":
        return (word, prime, plain_rows(prime, start[2]))
    return (word, prime, start[2])


def plain_deed(prime, deed):
    """A deed that has been found right, likewise."""
    word = deed[0]
    if word in ROW_DEEDS:
        return (word, plain_row(prime, deed[1]))
    if word == "led":
        return (word, plain_rows(prime, deed[1]))
    if word in START_DEEDS:
        return (word, plain_start(deed[1]))
    return (word,)


def other_kind(kind):
    """What a sum becomes in the shadow, and a tell."""
    return "tell" if kind == "sum" else "sum"


def led_along(prime, letters, more, deed, watch):
    """The watch, (kind, length, row), led along by a deed that makes so many letters more; TooMany(1000)."""
    kind, length, row = watch
    word = deed[0]
    if word == "shadow":
        return (other_kind(kind), length, row)
    if word == "back":
        return (kind, length, _reversed_words(letters, length, row))
    if word == "led":
        table = deed[1] if kind == "sum" else turned_over(prime, deed[1])
        return (kind, length, row_led(prime, letters, length, row, table))
    if word in SIDE_DEEDS:
        return (kind, length, _among_more(letters, letters + more, length, row))
    return watch


def _reversed_words(letters, length, row):
    spots = [0]
    times = 1
    # One letter makes the same word from both ends.
    for _ in range(length if letters > 1 else 0):
        spots = [letter * times + spot for spot in spots for letter in range(letters)]
        times *= letters
    return tuple([row[spot] for spot in spots])


def _among_more(letters, all_letters, length, row):
    """The row of the same words among words of more letters."""
    size = words_many(all_letters, length)
    spots = [0]
    for _ in range(length):
        spots = [spot * all_letters + letter for spot in spots for letter in range(letters)]
    return dense(size, {spot: number for spot, number in zip(spots, row)})
