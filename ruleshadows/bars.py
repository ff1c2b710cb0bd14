"""Bars: what keeps rooms from having a fitting basis."""

from ruleshadows.bases import lot_commons
from ruleshadows.checks import check_between, is_number
from ruleshadows.fitting import split_rooms
from ruleshadows.lattices import check_few, check_rooms, common_of, sum_of, tidy_rooms
from ruleshadows.solving import common_rows, rank, room_of

LEAST_LOT = 3


def gap(prime, size, rooms, at):
    """How much more the room has in common with what is ahead and behind together than with each of these."""
    check_rooms(prime, size, rooms)
    check_between(at, 0, len(rooms) - 1, "at")
    check_few(len(rooms))
    return gap_of(prime, size, tidy_rooms(prime, rooms), at)


def gap_of(prime, size, rooms, at):
    """The gap of rooms that are told by tidy lists."""
    ahead = sum_of(prime, rooms[:at])
    here = rooms[at]
    behind = common_of(prime, size, rooms[at + 1:])
    both = common_rows(prime, here, room_of(prime, ahead + behind))
    apart = common_rows(prime, here, room_of(prime, ahead)) + common_rows(prime, here, room_of(prime, behind))
    return len(both) - rank(prime, apart)


def bar(prime, size, rooms):
    """A lot and an index of it at which its rooms have a gap; None if there is a fitting basis."""
    check_rooms(prime, size, rooms)
    check_few(len(rooms))
    told = tidy_rooms(prime, rooms)
    lot = list(range(len(rooms)))
    if split_rooms(prime, size, told) is not None:
        return None
    # Rooms without a fitting basis, all but any one of which have one, have a gap themselves.
    for index in range(len(rooms)):
        fewer = [other for other in lot if other != index]
        if split_rooms(prime, size, [told[other] for other in fewer]) is None:
            lot = fewer
    chosen = [told[index] for index in lot]
    gaps_of_lot = [at for at in range(len(lot)) if gap_of(prime, size, chosen, at)]
    return (tuple(lot), gaps_of_lot[0])


def is_bar(prime, size, rooms, thing):
    """Whether any value is a bar of the rooms."""
    check_rooms(prime, size, rooms)
    check_few(len(rooms))
    if not isinstance(thing, tuple) or len(thing) != 2 or not _is_lot(thing[0], len(rooms)):
        return False
    lot, at = thing
    if not is_number(at) or not 0 <= at < len(lot):
        return False
    return gap_of(prime, size, tidy_rooms(prime, [rooms[index] for index in lot]), at) != 0


def _is_lot(value, many):
    """Whether any value is a lot of three or more of so many rooms."""
    if not isinstance(value, tuple) or len(value) < LEAST_LOT:
        return False
    if not all([is_number(index) and 0 <= index < many for index in value]):
        return False
    return all([value[k] < value[k + 1] for k in range(len(value) - 1)])


def counted_size(prime, size, rooms):
    """The rows of the common parts of all lots but (), those of an even number of rooms taken away."""
    check_rooms(prime, size, rooms)
    check_few(len(rooms))
    told = tidy_rooms(prime, rooms)
    # With a fitting basis each row of it in some room is counted just once.
    split = split_rooms(prime, size, told)
    if split is not None:
        return len([held for held in split.bits if held])
    commons = lot_commons(prime, size, told)
    return sum([len(commons[lot]) if len(lot) & 1 else -len(commons[lot]) for lot in commons if lot])
