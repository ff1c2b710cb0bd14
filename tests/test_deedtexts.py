import unittest

from asking import Asks
from livesamples import (
    DEEDS, NO_DEEDS, NO_STARTS, REFUSED, STARTS, chance_deed, chance_start, plain_deed, plain_start, tried)
from ruleshadows.deedtexts import deed_of_text, deed_text, start_of_text, start_text
from ruleshadows.live import is_deed, started
from samples import Numbers

TEXTS_NOT = (None, True, 0, b"shadow", ["shadow"], ("shadow",), ("free", 5, 2), {})
BAD = ("BadText", 0)


def rows_text(rows):
    return " / ".join(" ".join(str(x) for x in row) for row in rows)


def plain_start_text(start):
    told = plain_start(start)
    parts = [told[0], str(told[1])]
    if told[0] == "weighed":
        parts.append(rows_text(told[2]))
    else:
        parts.append(str(told[2]))
    if told[0] == "rules" and told[3]:
        parts.append(rows_text(told[3]))
    return " ".join(parts)


def plain_deed_text(deed):
    if deed[0] in ("put", "bar"):
        return deed[0] + " " + rows_text([deed[1]])
    if deed[0] == "led":
        return deed[0] + " " + rows_text(deed[1])
    return " ".join([deed[0]] + [plain_start_text(start) for start in deed[1:]])


def some_starts():
    numbers = Numbers(3)
    return list(STARTS) + [chance_start(numbers, (2, 3, 7, 97)[k % 4], 1 + k % 4) for k in range(80)]


def spoiled(text, numbers):
    """A text with a sign exchanged, left out or put in."""
    at, way, signs = numbers.below(len(text) + 1), numbers.below(3), "0123589 /\nfreshut-+"
    return text[:at] + (signs[numbers.below(len(signs))] if way else "") + text[at + (way < 2):]


class DeedTexts(Asks, unittest.TestCase):
    def test_starts_there_and_back(self):
        for start in some_starts():
            text = start_text(start)
            self.assertEqual(text, plain_start_text(start))
            found = start_of_text(text)
            self.assertEqual(found, plain_start(start))
            self.assertIsInstance(found, tuple)
            self.assertEqual(start_text(start=found), text)

    def test_starts_by_hand(self):
        for start, text in ((("rules", 3, 2, [[1, 0, 0, 5], [0, 1, 1, 0]]), "rules 3 2 1 0 0 2 / 0 1 1 0"),
                            (("free", 5, 2), "free 5 2"), (("weighed", 3, [[3, 0], [2, 7]]), "weighed 3 0 0 / 2 1"),
                            (("rules", 3, 2, []), "rules 3 2"), (("weighed", 3, [[5]]), "weighed 3 2"),
                            (("rules", 2, 1, [[1], [2], [3]]), "rules 2 1 1 / 0 / 1"),
                            (("exchange", 97, 9), "exchange 97 9"), (("minus", 2, 1), "minus 2 1"),
                            (("shut", 11, 3), "shut 11 3")):
            self.assertEqual(start_text(start), text)
            self.assertEqual(start_of_text(text=text), plain_start(start))

    def test_wrong_starts(self):
        for wrong in NO_STARTS:
            self.refuses("BadStart", start_text, wrong)
        for start, error in REFUSED:
            self.refuses(error, start_text, start)
        for wrong in TEXTS_NOT + (
                "", " ", "free", "free 5", "free 5 2 ", " free 5 2", "free  5 2", "free 5  2", "free 05 2", "free 5 02",
                "Free 5 2", "free 4 2", "free 5 0", "free 5 10", "free 5 2 1", "free 5 2\n", "free 5 2 0 0 0 0",
                "free -5 2", "rules 3 2 1 0 0", "rules 3 2 1 0 0 3", "rules 3 2 1 0 0 2 /", "rules 3 2 / 1 0 0 2",
                "rules 3 2 /", "rules 3 2 1 0 0 2/ 0 1 1 0", "rules 3 2 1 0 0 2 0 1 1 0", "rules 3 2 1 0 / 0 2",
                "rules 3 2 ", "rules 3", "rules 3 2 1 0 0 2 / / 0 1 1 0", "rules 3 2 1 0 0 x", "rules 3 2 1 0 0 02",
                "weighed 3", "weighed 3 ", "weighed 3 0 0 / 0 1", "weighed 3 0 0 / 3 1", "weighed 3 0 0 2 1",
                "weighed 3 0 0 / 2", "weighed 4 1", "weighed 3 0 0 / 2 1 /", "weighed 3 0 0 / 2 4", "join free 5 2",
                "shadow", "book 5 2", "free 5 " + "2" * 6000, "free \u0665 2", "free 5 2\r", "free\t5 2",
                "live free 5 2", "weighed 2 / 1"):
            self.refuses(BAD, start_of_text, wrong)

    def test_spoiled_starts(self):
        numbers, wrong = Numbers(11), 0
        for start in some_starts():
            for _ in range(30):
                text = spoiled(start_text(start), numbers)
                found = tried(start_of_text, text)
                if len(found) == 1:
                    self.assertEqual(plain_start_text(found[0]), text)
                    started(found[0])
                else:
                    wrong += 1
                    self.refuses(BAD, start_of_text, text)
        self.assertGreater(wrong, 1000)

    def test_deeds_there_and_back(self):
        numbers, deeds = Numbers(8), []
        for k in range(300):
            prime = (2, 3, 7, 97)[k % 4]
            deeds.append(plain_deed(prime, chance_deed(numbers, prime, 1 + k % 3)))
        deeds += [("put", (96,) * 4), ("bar", [0] * 81), ("led", [[96, 50], [0, 3]]), ("led", [[0] * 9] * 9)]
        for deed in deeds:
            text = deed_text(deed)
            self.assertEqual(text, plain_deed_text(deed))
            found = deed_of_text(text)
            self.assertEqual(found, plain_deed(97, deed))
            self.assertIs(is_deed(found), True)
            self.assertEqual(deed_text(deed=found), text)

    def test_deeds_by_hand(self):
        for deed, text in ((("shadow",), "shadow"), (("back",), "back"), (("put", (0, 1, 2, 0)), "put 0 1 2 0"),
                           (("bar", (96,)), "bar 96"), (("led", ((1, 0), (2, 1))), "led 1 0 / 2 1"),
                           (("join", ("minus", 3, 2)), "join minus 3 2"), (("led", ((7,),)), "led 7"),
                           (("behind", ("rules", 3, 2, ((1, 0, 0, 2),))), "behind rules 3 2 1 0 0 2"),
                           (("free", ("free", 2, 1)), "free free 2 1"),
                           (("shut", ("weighed", 3, ((0,),))), "shut weighed 3 0")):
            self.assertEqual(deed_text(deed), text)
            self.assertEqual(deed_of_text(text=text), deed)
        # Numbers of a start are written below its prime, those of a row or a table as they are.
        self.assertEqual(deed_text(("ahead", ("rules", 3, 1, [[5]]))), "ahead rules 3 1 2")
        self.assertEqual(deed_text(("put", [5])), "put 5")

    def test_wrong_deeds(self):
        for wrong in NO_DEEDS:
            self.refuses("BadDeed", deed_text, wrong)
        for deed in (("put", [97]), ("bar", [-1]), ("put", [0, 0, 0, 100]), ("led", [[97]]),
                     ("led", [[0, 0], [0, -1]])):
            self.assertIs(is_deed(deed), True)
            self.refuses("BadDeed", deed_text, deed)
        for deed in DEEDS:
            self.assertEqual(len(tried(deed_text, deed)), 2 if deed[0] == "put" and -1 in deed[1] else 1)
        for wrong in TEXTS_NOT + (
                "", " ", "shadow ", " shadow", "Shadow", "shadow 1", "shadow\n", "back\nback", "put", "put ", "put 1 2",
                "put 1 2 3", "put 0 1 2 97", "put 0 1 2 -1", "put 0 1 2 00", "put 0  1 2 0", "put 0 1 2 0 ",
                "put 0 1 / 2 0", "put 100", "bar", "bar x", "led", "led ", "led 1 2", "led 1 0 / 2", "led 1 0 / 2 1 /",
                "led / 1", "led 1 0 2 1", "led 1 0 / 2 97", "led 1 0/2 1", "join", "join ", "join free",
                "join free 4 2", "join free 5 2 ", "join  free 5 2", "join join free 5 2", "join shadow", "free 5 2",
                "shut 5 2", "free", "undo", "redo", "put 1\n", "join rules 3 2 1 0 0 3", "put \u0661",
                "put " + "1" * 6000, "led 1 0 / 2 1\r", "put 1 0 0 0\t"):
            self.refuses(BAD, deed_of_text, wrong)

    def test_spoiled_deeds(self):
        numbers, wrong = Numbers(17), 0
        for k in range(200):
            deed = plain_deed(7, chance_deed(numbers, 7, 1 + k % 3))
            for _ in range(10):
                text = spoiled(deed_text(deed), numbers)
                found = tried(deed_of_text, text)
                if len(found) == 1:
                    self.assertEqual(plain_deed_text(found[0]), text)
                    self.assertIs(is_deed(found[0]), True)
                else:
                    wrong += 1
                    self.refuses(BAD, deed_of_text, text)
        self.assertGreater(wrong, 800)


if __name__ == "__main__":
    unittest.main()
