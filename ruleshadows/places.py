"""Rules at some places of longer words, and what these rooms have in common."""

from ruleshadows.books import check_book
from ruleshadows.checks import check_between, is_list, length_many
from ruleshadows.commonstock import CommonStock
from ruleshadows.errors import BadNumber
from ruleshadows.reststock import RestStock
from ruleshadows.shadows import shadow
from ruleshadows.solving import common_rows, dense_rows, room_of, sparse, tidy_rows, unit_rows


def place_rows(book, length, place):
    """The tidy list of at_place, as dicts."""
    letters = book.letters
    behind = 1
    for _ in range(length - 2 - place if letters > 1 else 0):
        behind *= letters
    step = letters * letters * behind
    rules = [sparse(book.prime, row) for row in book.rules]
    many = length_many(letters, length) // step
    return [
        {start * step + at * behind + end: rule[at] for at in rule}
        for start in range(many)
        for rule in rules
        for end in range(behind)
    ]


def at_place(book, length, place):
    """The tidy list of all rules put in at this place."""
    check_book(book)
    size = length_many(book.letters, length)
    check_between(place, 0, length - 2, "place")
    return dense_rows(size, place_rows(book, length, place))


def _checked_places(book, length, places):
    """The size of the rows, and the places, each once, ascending."""
    check_book(book)
    size = length_many(book.letters, length)
    if not is_list(places):
        raise BadNumber("place")
    for place in places:
        check_between(place, 0, length - 2, "place")
    return (size, sorted(set(places)))


def at_places(book, length, places):
    """The tidy list of the rooms at all these places together."""
    size, different = _checked_places(book, length, places)
    rows = [row for place in different for row in place_rows(book, length, place)]
    return dense_rows(size, tidy_rows(room_of(book.prime, rows)))


def common_at(book, length, places):
    """The tidy list of what the rooms at all these places have in common."""
    size, different = _checked_places(book, length, places)
    found = unit_rows(size)
    for index, place in enumerate(different):
        rows = place_rows(book, length, place)
        found = rows if index == 0 else common_rows(book.prime, found, room_of(book.prime, rows))
    return dense_rows(size, found)


def common_room(book, length):
    """The tidy list of what the rules at all places have in common."""
    check_book(book)
    size = length_many(book.letters, length)
    return dense_rows(size, CommonStock(book).full_rows(length))


def pairing(book, length):
    """The square of the numbers of the rows of common_room at the rest words of the shadow."""
    check_book(book)
    length_many(book.letters, length)
    spots = RestStock(shadow(book)).spots(length)
    return tuple([tuple([row.get(spot, 0) for spot in spots]) for row in CommonStock(book).full_rows(length)])
