"""A right call of each function, with its parameters by name in their sequence, and what goes wrong with them."""

from ruleshadows import books, ladders, places, rests, rooms, shadows, undoing, words
from samples import chance_book

BOOK = books.exchange_book(3, 2)
BENT = chance_book(5, 2, 2, 3)
ROWS = [[1, 2, 0], [0, 1, 4]]
OTHER = [[1, 0, 6]]
TABLE = [[1, 1], [0, 2]]


def made(function, **given):
    return (function, given)


FIRST = [
    made(words.spot_of, letters=3, word=(2, 0, 1)),
    made(words.word_at, letters=3, length=2, spot=5),
    made(words.words, letters=2, length=2),
    made(words.beside, prime=5, one=[1, 6], other=[2, -1]),
    made(words.row_led, prime=5, letters=2, length=2, row=[1, 7, 0, 2], table=TABLE),
    made(rooms.tidy, prime=5, size=3, one=ROWS),
    made(rooms.room_sum, prime=5, size=3, one=ROWS, other=OTHER),
    made(rooms.room_common, prime=5, size=3, one=ROWS, other=OTHER),
    made(rooms.room_dark, prime=5, size=3, one=ROWS),
    made(rooms.is_within, prime=5, size=3, one=ROWS, other=OTHER),
    made(books.Rules, prime=5, letters=2, rows=[[0, 6, -1, 0], [1, 1, 1, 1]]),
    made(books.free_book, prime=5, letters=2),
    made(books.shut_book, prime=5, letters=2),
    made(books.exchange_book, prime=5, letters=2),
    made(books.minus_book, prime=5, letters=2),
    made(books.weighed_book, prime=5, weights=[[0, 3], [2, 6]]),
    made(books.book_led, book=BENT, table=TABLE),
    made(books.read_back, book=BENT),
    made(rests.nothing_room, book=BOOK, length=3),
    made(rests.rest_words, book=BOOK, length=3),
    made(rests.count, book=BOOK, length=3),
    made(rests.rest, book=BOOK, length=2, row=[1, 2, 4, 0]),
    made(rests.rest_product, book=BOOK, first=1, one=[1, 5], second=2, other=[1, 1, 2, -1]),
    made(rests.ending, book=BENT, most=4),
    made(rests.idle, book=BENT, length=1, side=0),
    made(shadows.shadow, book=BENT),
    made(shadows.is_under, one=BOOK, other=BOOK),
    made(shadows.joined_rules, one=BOOK, other=BOOK),
    made(shadows.common_rules, one=BOOK, other=BOOK),
    made(places.at_place, book=BENT, length=3, place=0),
    made(places.at_places, book=BENT, length=3, places=[0, 1]),
    made(places.common_at, book=BENT, length=3, places=[0, 1]),
    made(places.common_room, book=BENT, length=3),
    made(places.pairing, book=BENT, length=3),
    made(ladders.rung_size, book=BENT, length=3, step=2),
    made(ladders.letters_off, book=BENT, step=2, side=0),
    made(ladders.step_rows, book=BENT, length=3, step=2, side=0),
    made(ladders.lost, book=BENT, length=4, side=0),
    made(ladders.first_lost, book=BENT, most=5),
    made(ladders.fits, book=BENT, most=5),
    made(undoing.back_counts, book=BENT, most=4),
    made(undoing.counts_undo, book=BENT, most=4),
]

CALLS = FIRST

TUPLES = ("word",)
ROW_ERRORS = {"table": ("BadTable", None), "weights": ("BadTable", None), "places": ("BadNumber", "place")}


def error_of(name):
    """What a parameter of this name that holds True in the place of a number must raise."""
    if name == "prime":
        return ("BadPrime", None)
    return ("BadNumber", name)


def row_error_of(name):
    """The same for a list or tuple with True in it."""
    return ROW_ERRORS.get(name, ("BadWord", None) if name in TUPLES else ("BadRow", None))


# Parameters that take any value, to be judged.
ANY = ()
# Where the document asks for another sequence than from left to right.
LATER = (("rest_product", "one"),)

INTERFACE = {
    "words": ("spot_of", "word_at", "words", "beside", "row_led"),
    "rooms": ("tidy", "room_sum", "room_common", "room_dark", "is_within"),
    "books": ("Rules", "free_book", "shut_book", "exchange_book", "minus_book", "weighed_book", "book_led",
              "read_back"),
    "rests": ("nothing_room", "rest_words", "count", "rest", "rest_product", "ending", "idle"),
    "shadows": ("shadow", "is_under", "joined_rules", "common_rules"),
    "places": ("at_place", "at_places", "common_at", "common_room", "pairing"),
    "ladders": ("rung_size", "letters_off", "step_rows", "lost", "first_lost", "fits"),
    "undoing": ("back_counts", "counts_undo"),
}
