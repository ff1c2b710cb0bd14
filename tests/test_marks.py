import unittest

import plain
from asking import Asks
from livesamples import STARTS, chance_deed, state, tried
from ruleshadows.books import Rules
from ruleshadows.live import LiveBook
from ruleshadows.words import first_led_behind
from samples import Numbers
from test_watches import NAMES_NOT


def carried_along(prime, length, row, carried):
    """A sum of the marked book by now: all letters sent to their rows, words reversed if they are turned."""
    kind, turned, table = carried
    numbers = list(row)
    for _ in range(length):
        numbers = first_led_behind(prime, numbers, table)
    if turned:
        told = {word: x for word, x in zip(plain.words(len(table[0]), length), numbers)}
        numbers = [told[word[::-1]] for word in plain.words(len(table[0]), length)]
    return (kind, length, tuple(x % prime for x in numbers))


class Marks(Asks, unittest.TestCase):
    def test_marks(self):
        live = LiveBook(("exchange", 3, 2))
        self.assertIsNone(live.mark("b"))
        live.do(("shadow",))
        self.assertIsNone(live.mark(name="a"))
        self.assertEqual(live.marks(), ["a", "b"])
        self.assertEqual(live.marked("b"), Rules(3, 2, [[0, 1, 2, 0]]))
        self.assertEqual(live.marked(name="a"), live.book)
        live.undo()
        self.assertEqual(live.marks(), ["a", "b"])
        self.assertEqual(len(live.marked("a").rules), 3)
        # What was there before is lost.
        live.do(("put", [1, 0, 0, 0]))
        live.mark("a")
        self.assertEqual(live.marked("a"), Rules(3, 2, [[0, 1, 2, 0], [1, 0, 0, 0]]))
        self.assertEqual(live.marks(), ["a", "b"])
        live.marks().clear()
        self.assertEqual(live.marks(), ["a", "b"])

    def test_wrong_names(self):
        live = LiveBook(("exchange", 3, 2))
        live.mark("b")
        live.watch_sum("a", 0, [1])
        before = state(live)
        for wrong in NAMES_NOT + ("a", "bb"):
            for function in (live.marked, live.carried):
                with self.assertRaises(ValueError) as caught:
                    function(wrong)
                self.assertEqual(caught.exception.__class__.__name__, "NoMark")
                self.assertIs(caught.exception.name, wrong)
        for wrong in NAMES_NOT:
            self.refuses("BadName", live.mark, wrong)
        self.assertEqual(state(live), before)

    def test_carried_by_hand(self):
        live = LiveBook(("free", 5, 2))
        live.mark("a")
        plain_square = ((1, 0), (0, 1))
        self.assertEqual(live.carried("a"), ("sum", False, plain_square))
        live.do(("back",))
        self.assertEqual(live.carried("a"), ("sum", True, plain_square))
        live.do(("led", [[1, 1], [0, 2]]))
        self.assertEqual(live.carried("a"), ("sum", True, ((1, 1), (0, 2))))
        live.mark("b")
        live.do(("shadow",))
        self.assertEqual(live.carried("a"), ("tell", True, ((1, 1), (0, 2))))
        # What undoes it, rows and columns exchanged: 0 to 0, 1 to 2 times 0 and 3 times 1.
        live.do(("led", [[1, 1], [0, 2]]))
        self.assertEqual(live.carried("b"), ("tell", False, ((1, 0), (2, 3))))
        self.assertEqual(live.carried("a"), ("tell", True, ((3, 3), (4, 1))))
        live.do(("back",))
        live.do(("ahead", ("free", 5, 1)))
        live.do(("put", [1] * 9))
        self.assertEqual(live.carried("b"), ("tell", True, ((1, 0, 0), (2, 3, 0))))
        self.assertEqual(live.carried("a"), ("tell", False, ((3, 3, 0), (4, 1, 0))))
        live.do(("shadow",))
        live.mark("c")
        self.assertEqual(live.carried("c"), ("sum", False, ((1, 0, 0), (0, 1, 0), (0, 0, 1))))
        self.assertEqual(live.carried("b")[0], "sum")

    def test_carried_is_none_unless_the_deeds_of_the_mark_stand_first(self):
        live = LiveBook(("free", 5, 2))
        live.do(("shadow",))
        live.do(("put", [1, 0, 0, 0]))
        live.mark("a")
        live.undo()
        self.assertIsNone(live.carried("a"))
        live.redo()
        self.assertEqual(live.carried("a")[0], "sum")
        live.undo()
        live.do(("put", [1, 0, 0, 1]))
        self.assertIsNone(live.carried("a"))
        live.undo()
        # The same deed, though done anew and written with other numbers.
        live.do(("put", (6, 0, 5, -5)))
        live.do(("back",))
        self.assertEqual(live.carried("a"), ("sum", True, ((1, 0), (0, 1))))
        live.undo()
        live.undo()
        live.undo()
        self.assertIsNone(live.carried("a"))
        live.do(("back",))
        live.do(("shadow",))
        live.do(("put", [1, 0, 0, 0]))
        self.assertIsNone(live.carried("a"))

    def test_carried_as_what_is_watched_is(self):
        some, none = 0, 0
        for seed, start in enumerate(STARTS * 2):
            numbers = Numbers(seed + 300)
            live = LiveBook(start)
            for _ in range(4):
                tried(live.do, chance_deed(numbers, live.prime, live.book.letters))
            if live.book.letters > 3:
                live = LiveBook(start)
            length = 2 + seed % 2
            row = numbers.row(live.book.letters ** length, live.prime)
            live.mark("m")
            live.watch_sum("w", length, row)
            for _ in range(12):
                standing = live.standing
                tried(live.do, chance_deed(numbers, live.prime, live.book.letters))
                if live.book.letters > 4:
                    live.undo()
                found = live.carried("m")
                kind, turned, table = found
                self.assertTrue(isinstance(found, tuple) and isinstance(turned, bool) and isinstance(table, tuple))
                self.assertTrue(all(isinstance(line, tuple) for line in table))
                self.assertEqual(carried_along(live.prime, length, row, found), live.watched()["w"])
                some += live.standing > standing
            while live.standing:
                live.undo()
            none += live.carried("m") is None
        self.assertTrue(some > 200 and none > 8, (some, none))

    def test_carried_as_if_done_afresh(self):
        for seed, start in enumerate(STARTS):
            numbers = Numbers(seed + 800)
            live = LiveBook(start)
            marks = {}
            for k in range(30):
                way = numbers.below(6)
                if way == 0:
                    name = "abc"[numbers.below(3)]
                    live.mark(name)
                    marks[name] = (live.book, live.deeds())
                tried((live.undo, live.redo, live.do, live.do, live.do, live.do)[way],
                      *(() if way < 2 else (chance_deed(numbers, live.prime, live.book.letters),)))
                if live.book.letters > 3:
                    live.undo()
                self.assertEqual(live.marks(), sorted(marks))
                for name, (book, deeds) in marks.items():
                    self.assertEqual(live.marked(name), book)
                    self.assertEqual(live.carried(name), self.afresh(start, live.deeds(), deeds))

    def afresh(self, start, deeds, before):
        """What a new one tells of a mark that it sets behind these deeds."""
        if deeds[:len(before)] != before:
            return None
        live = LiveBook(start)
        for deed in before:
            live.do(deed)
        live.mark("x")
        for deed in deeds[len(before):]:
            live.do(deed)
        return live.carried("x")


if __name__ == "__main__":
    unittest.main()
