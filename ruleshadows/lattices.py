"""Several rooms of one size: sums, common parts, and all rooms that come of them."""

from ruleshadows.checks import check_between, is_list, is_rows
from ruleshadows.errors import BadRow, TooMany
from ruleshadows.rooms import check_room, sparse_tidy
from ruleshadows.solving import common_rows, dense_rows, room_of, sum_rows, unit_rows

MOST_ROOMS = 8
MOST_CLOSED = 200


def check_rooms(prime, size, rooms):
    """Raises BadPrime, BadNumber("size"), BadRow."""
    check_room(prime, size)
    if not is_list(rooms) or not all([is_rows(room, size) for room in rooms]):
        raise BadRow("a list of lists of rows of this size is asked")


def check_few(many):
    """Raises TooMany(8)."""
    if many > MOST_ROOMS:
        raise TooMany(MOST_ROOMS)


def tidy_rooms(prime, rooms):
    """The tidy lists of the rooms, as dicts."""
    return [sparse_tidy(prime, room) for room in rooms]


def sum_of(prime, rooms):
    """The tidy list of all rooms together."""
    found = []
    for room in rooms:
        found = sum_rows(prime, found, room)
    return found


def common_of(prime, size, rooms):
    """The tidy list of what all rooms, told by tidy lists, have in common; of all rows without rooms."""
    if not rooms:
        return unit_rows(size)
    found = rooms[0]
    for room in rooms[1:]:
        found = common_rows(prime, found, room_of(prime, room))
    return found


def all_sum(prime, size, rooms):
    """The tidy list of all rooms together."""
    check_rooms(prime, size, rooms)
    check_few(len(rooms))
    return dense_rows(size, sum_of(prime, tidy_rooms(prime, rooms)))


def all_common(prime, size, rooms):
    """The tidy list of what all rooms have in common; of all rows without rooms."""
    check_rooms(prime, size, rooms)
    check_few(len(rooms))
    return dense_rows(size, common_of(prime, size, tidy_rooms(prime, rooms)))


def closed_rooms(prime, size, rooms, most):
    """All rooms that come of these by sums and common parts of two; TooMany(most) if there are more."""
    check_rooms(prime, size, rooms)
    check_between(most, 1, MOST_CLOSED, "most")
    check_few(len(rooms))
    found = {}
    waiting = []
    _note(size, tidy_rooms(prime, rooms), most, found, waiting)
    done = []
    while waiting:
        one = waiting.pop()
        for other in done:
            made = [sum_rows(prime, one, other), common_rows(prime, one, room_of(prime, other))]
            _note(size, made, most, found, waiting)
        done.append(one)
    ranked = sorted([(len(rows), rows) for rows in found])
    return [list(pair[1]) for pair in ranked]


def _note(size, rooms, most, found, waiting):
    """Changes found and waiting: those of the rooms that are not yet found are put in."""
    for room in rooms:
        rows = tuple(dense_rows(size, room))
        if rows not in found:
            found[rows] = True
            waiting.append(room)
    if len(found) > most:
        raise TooMany(most)


def all_lots(many):
    """The ascending list of all lots of so many rooms."""
    lots = [()]
    for at in range(many):
        lots = lots + [lot + (at,) for lot in lots]
    return sorted(lots)
