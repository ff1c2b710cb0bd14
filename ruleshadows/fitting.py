"""How a fitting basis of rooms is found, one room after the other."""

from ruleshadows.solving import mixed, put_times, room_of, unit_rows


def _renamed(row, names):
    """The row with the name of each place in its place."""
    return {names[place]: number for place, number in row.items()}


class Split:
    """A basis that fits the rooms put in so far.

    For each row of the basis bits tell the rooms that it lies in: room k by the bit k. So what several rooms have
    in common is told by the rows that have all of their bits.
    """

    def __init__(self, prime, size):
        self.prime = prime
        self.rows = unit_rows(size)
        self.bits = [0] * size

    def put_room(self, index, told):
        """One room more, told by the basis. What changes in the basis, by rows; None if no basis fits it, too."""
        # By the bits, ascending: what lies in more rooms comes behind all that lies in some of them.
        ranked = sorted([(held, place) for place, held in enumerate(self.bits)])
        order = [pair[1] for pair in ranked]
        spots = {place: spot for spot, place in enumerate(order)}
        room = room_of(self.prime, [_renamed(told_row, spots) for told_row in told])
        # If a basis fits, then each row of the tidy list lies in all rooms that its first place lies in.
        tails = {}
        for spot in sorted(room):
            row = _renamed(room[spot], order)
            own = self.bits[order[spot]]
            if any([self.bits[at] & own != own for at in row]):
                return None
            tails[order[spot]] = row
        for at, row in tails.items():
            self.rows[at] = mixed(self.prime, row, self.rows)
            self.bits[at] = self.bits[at] | (1 << index)
        return tails

    def retold(self, row, tails):
        """What tells a row by the basis after these changes, from what told it before."""
        made = {at: row[at] for at in row}
        for at, number in row.items():
            if at in tails:
                put_times(self.prime, made, self.prime - number, tails[at])
                made[at] = number
        return made


def split_rooms(prime, size, rooms):
    """The split that fits all rooms, told by tidy lists; None if there is none."""
    split = Split(prime, size)
    left = [list(room) for room in rooms]
    for index in range(len(rooms)):
        tails = split.put_room(index, left[index])
        if tails is None:
            return None
        for later in range(index + 1, len(rooms)):
            left[later] = [split.retold(row, tails) for row in left[later]]
    return split

