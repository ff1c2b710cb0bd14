"""Some rooms of one size for the tests, and what they have in common the plain way."""

import itertools

import plain
from samples import Numbers

THREE = [[(1, 0)], [(0, 1)], [(1, 1)]]


def four(prime):
    """The four rooms of the document in size 6: any three have a fitting basis, all four have none."""
    rooms = []
    for row in ((1, 0, 0), (0, 1, 0), (0, 0, 1), (1, 1, 1)):
        rooms.append([row + (0, 0, 0)] + [(0, 0, 0) + other for other in plain.dark(prime, [row], 3)])
    return rooms


def fitted(prime, size, many, seed):
    """Rooms made of some rows of one basis: so that they have a fitting basis; and this basis."""
    numbers = Numbers(seed)
    basis = plain.identity(size)
    for _ in range(3 * size):
        a, b, times = numbers.below(size), numbers.below(size), numbers.below(prime)
        if a != b:
            basis[a] = tuple((x + times * y) % prime for x, y in zip(basis[a], basis[b]))
    rooms = []
    for _ in range(many):
        some = [row for row in basis if numbers.below(2)]
        # Told by other rows than those of the basis: one row more, and each with some of the one ahead.
        mixed = [tuple(x + y for x, y in zip(row, some[k - 1])) if k else row for k, row in enumerate(some)]
        rooms.append(mixed + some[:1])
    return rooms, basis


def chance_rooms(prime, size, many, seed):
    """Rooms as if by chance, some of them within others."""
    numbers = Numbers(seed)
    rooms = []
    for at in range(many):
        room = numbers.rows(1 + numbers.below(size - 1), size, prime, thin=1 + numbers.below(2))
        if at and numbers.below(2):
            room = room[:1] + list(rooms[numbers.below(at)])
        rooms.append(room)
    return rooms


def three_of_all_sorts(crossed):
    """Three rooms of which as many others come as can be: with a fitting basis, or crossed, without one."""
    lots_of_rows = [(0,), (1,), (2,), (0, 1), (0, 2), (1, 2)]
    size = len(lots_of_rows) + 2
    rooms = [[plain.unit(size, at) for at, lot in enumerate(lots_of_rows) if k in lot] for k in range(3)]
    if crossed:
        for room, (row,) in zip(rooms, THREE):
            room.append((0,) * len(lots_of_rows) + row)
    return size, rooms


def samples():
    """(prime, size, rooms): without and with fitting bases."""
    found = [(3, 2, THREE), (2, 2, THREE), (2, 6, four(2)), (3, 6, four(3)), (5, 2, []), (5, 0, [[], [()]]),
             (3, 2, [[]]), (3, 3, [[(1, 0, 0)], [(1, 0, 0)], [(1, 0, 0), (0, 0, 1)]]), (7, 1, [[(3,)], [(0,)], [(1,)]])]
    for seed in range(16):
        prime = (2, 3, 5, 97)[seed % 4]
        found.append((prime, 3 + seed % 3, fitted(prime, 3 + seed % 3, 1 + seed % 5, seed)[0]))
        found.append((prime, 3 + seed % 3, chance_rooms(prime, 3 + seed % 3, 2 + seed % 4, seed)))
    return found


def lots(many):
    return sorted(lot for size in range(many + 1) for lot in itertools.combinations(range(many), size))


def lot_common(prime, size, rooms, lot):
    return plain.common_of(prime, [rooms[at] for at in lot], size)


def together(prime, rooms):
    rows = [row for room in rooms for row in room]
    return plain.gauss(prime, rows) if rows else []


def fits_by_numbers(prime, size, rooms):
    """Whether there is a fitting basis, by the numbers of the lots."""
    return sum(plain_numbers(prime, size, rooms).values()) == size


def plain_numbers(prime, size, rooms):
    every = lots(len(rooms))
    commons = {lot: lot_common(prime, size, rooms, lot) for lot in every}
    return {lot: len(commons[lot]) - len(together(prime, [
        commons[other] for other in every if set(lot) < set(other)])) for lot in every}
