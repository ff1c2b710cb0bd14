"""Floors of a least ladder while it is built, length by length."""

from ruleshadows.reststock import RestStock
from ruleshadows.solving import kernel_rows, put_times, room_of, take_in


class Floor:
    """The generators of one floor: their lengths, and by its length what each word with each of them is led to.

    A sum on a floor is kept as a dict from pairs of a generator's place and a rest word's number.
    """

    def __init__(self):
        self.lengths = []
        self.leds = []

    def settle(self, length, total):
        """One generator more, with this sum."""
        self.lengths.append(length)
        self.leds.append([[total]])


class Ladder:
    """The floors of a least ladder as far as they have been built; floor 0 is there from the start."""

    def __init__(self, book, side):
        self.rests = RestStock(book)
        self.side = side
        ground = Floor()
        ground.settle(0, {})
        self.floors = [ground]

    def _rung_pairs(self, step, length):
        """The pairs of which the sums of this length on this floor are made, ascending."""
        pairs = []
        for place, start in enumerate(self.floors[step].lengths):
            if start <= length:
                pairs.extend([(place, k) for k in range(self.rests.many(length - start))])
        return pairs

    def _led_rows(self, step, length):
        """What these pairs are led to on the floor below."""
        rows = []
        for place, start in enumerate(self.floors[step].lengths):
            if start <= length:
                rows.extend(self._led(step, place, length - start))
        return rows

    def _led(self, step, place, length):
        """What the words of this length with this generator are led to: letter by letter."""
        known = self.floors[step].leds[place]
        while len(known) <= length:
            known.append(self._longer(step, place, len(known)))
        return known[length]

    def _longer(self, step, place, length):
        floor = self.floors[step]
        rows = []
        for k in range(self.rests.many(length)):
            letter, left = self.rests.peeled(length, k, self.side)
            before = floor.leds[place][length - 1][left]
            rows.append(self._beside(letter, before, step - 1, floor.lengths[place] + length - 1))
        return rows

    def _beside(self, letter, total, step, length):
        """The letter beside a sum of this length on this floor."""
        made = {}
        for pair, number in total.items():
            place, k = pair
            steps = self.rests.side_rows(length - self.floors[step].lengths[place], self.side)
            row = steps[k * self.rests.letters + letter]
            put_times(self.rests.prime, made, number, {(place, at): row[at] for at in row})
        return made

    def _silent(self, step, length):
        """A basis of the sums of this length on this floor that are led to nothing; on floor 0 of all sums."""
        pairs = self._rung_pairs(step, length)
        if step == 0:
            return [{pair: 1} for pair in pairs]
        found = kernel_rows(self.rests.prime, self._led_rows(step, length))
        return [{pairs[at]: row[at] for at in row} for row in found]

    def build(self, length, most):
        """Puts all generators of this length on the floors 1 to most; those of lesser lengths are there."""
        while len(self.floors) <= most:
            self.floors.append(Floor())
        # A floor has nothing of a length below its own number.
        for step in range(min([most, length])):
            silent = self._silent(step, length)
            if silent:
                reached = room_of(self.rests.prime, self._led_rows(step + 1, length))
                for row in silent:
                    if take_in(self.rests.prime, reached, row):
                        self.floors[step + 1].settle(length, row)

    def told_floor(self, step):
        """The floor as a tuple of generators."""
        floor = self.floors[step]
        return tuple([
            (length, self._told_sum(step - 1, length, known[0][0]))
            for length, known in zip(floor.lengths, floor.leds)
        ])

    def _told_sum(self, step, length, total):
        """A sum on this floor as an ascending tuple of triples; the one of floor 0's generator is ()."""
        told = []
        for pair in sorted(total):
            place, k = pair
            word = self.rests.word(length - self.floors[step].lengths[place], k)
            told.append((place, word, total[pair]))
        return tuple(told)
