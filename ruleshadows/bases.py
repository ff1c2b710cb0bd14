"""Bases that fit several rooms at once, and the numbers of lots."""

from ruleshadows.checks import is_rows
from ruleshadows.fitting import split_rooms
from ruleshadows.lattices import all_lots, check_few, check_rooms, tidy_rooms
from ruleshadows.solving import common_rows, dense_rows, rank, reduced, room_of, sparse, unit_rows


def is_fitting(prime, size, rooms, thing):
    """Whether any value is a fitting basis of the rooms."""
    check_rooms(prime, size, rooms)
    check_few(len(rooms))
    if not is_rows(thing, size) or len(thing) != size:
        return False
    rows = [sparse(prime, row) for row in thing]
    if rank(prime, rows) < size:
        return False
    # Rows of a basis are independent: those within a room span it exactly if they are as many as its tidy list has.
    return all([_within(prime, rows, room) == len(room) for room in tidy_rooms(prime, rooms)])


def _within(prime, rows, room):
    pivots = room_of(prime, room)
    return len([row for row in rows if not reduced(prime, pivots, row)])


def fitting_basis(prime, size, rooms):
    """A fitting basis of the rooms; None if there is none."""
    check_rooms(prime, size, rooms)
    check_few(len(rooms))
    split = split_rooms(prime, size, tidy_rooms(prime, rooms))
    if split is None:
        return None
    return dense_rows(size, split.rows)


def lot_numbers(prime, size, rooms):
    """For each lot how many rows lie in its rooms beyond those that lie in more rooms."""
    check_rooms(prime, size, rooms)
    check_few(len(rooms))
    told = tidy_rooms(prime, rooms)
    lots = all_lots(len(rooms))
    split = split_rooms(prime, size, told)
    if split is not None:
        bits = {lot: sum([1 << at for at in lot]) for lot in lots}
        return {lot: split.bits.count(bits[lot]) for lot in lots}
    commons = lot_commons(prime, size, told)
    return {lot: _beyond(prime, lot, commons, len(rooms)) for lot in lots}


def lot_commons(prime, size, rooms):
    """For each lot the tidy list of what its rooms, told by tidy lists, have in common."""
    pivots = [room_of(prime, room) for room in rooms]
    commons = {}
    for lot in all_lots(len(rooms)):
        if not lot:
            commons[lot] = unit_rows(size)
        elif len(lot) == 1:
            commons[lot] = rooms[lot[0]]
        else:
            commons[lot] = common_rows(prime, commons[lot[:-1]], pivots[lot[-1]])
    return commons


def _beyond(prime, lot, commons, many):
    """What has all indexes of the lot and more is within what has just one more."""
    rows = []
    for at in range(many):
        if at not in lot:
            rows.extend(commons[tuple(sorted(lot + (at,)))])
    return len(commons[lot]) - rank(prime, rows)
