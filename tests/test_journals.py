import unittest

from asking import Asks
from livesamples import STARTS, chance_deed, lived, state, tried
from ruleshadows.deedtexts import deed_text, start_text
from ruleshadows.journals import journal_text, led_live
from ruleshadows.live import LiveBook
from samples import Numbers
from test_mirrors import LIVE_NOT
from test_texts import TEXTS_NOT, bad


class Journals(Asks, unittest.TestCase):
    def test_there_and_back(self):
        for seed, start in enumerate(STARTS * 2):
            live = lived(seed + 60, start, 14)
            text = journal_text(live)
            self.assertEqual(text.split("\n"), ["live " + start_text(start)] + [deed_text(x) for x in live.deeds()])
            made = led_live(text)
            self.assertIsInstance(made, LiveBook)
            self.assertEqual(journal_text(live=made), text)
            self.assertEqual((made.book, made.start, made.deeds(), made.told()),
                             (live.book, live.start, live.deeds(), live.told()))
            self.assertEqual(state(led_live(text=text)), state(made))

    def test_by_hand(self):
        live = LiveBook(("rules", 3, 2, [[4, 0, 0, -1]]))
        self.assertEqual(journal_text(live), "live rules 3 2 1 0 0 2")
        live.do(("put", [3, 4, 5, -3]))
        live.do(("led", [[1, 0], [5, 4]]))
        live.do(("free", ("weighed", 3, [[3]])))
        live.do(("back",))
        self.assertEqual(journal_text(live),
                         "live rules 3 2 1 0 0 2\nput 0 1 2 0\nled 1 0 / 2 1\nfree weighed 3 0\nback")
        live.undo()
        live.watch_sum("a", 0, [1])
        live.mark("m")
        self.assertEqual(journal_text(live), "live rules 3 2 1 0 0 2\nput 0 1 2 0\nled 1 0 / 2 1\nfree weighed 3 0")
        made = led_live(journal_text(live))
        self.assertEqual((made.watched(), made.marks(), made.standing), ({}, [], 3))
        self.refuses("NothingLeft", made.redo)
        self.assertEqual(journal_text(LiveBook(("free", 2, 1))), "live free 2 1")

    def test_wrong_first_lines(self):
        for text in ("", " ", "live", "live ", "live free", "live free 4 2", "live free 5 2 ", " live free 5 2",
                     "live  free 5 2", "Live free 5 2", "free 5 2", "live rules 3 2 1 0 0 3",
                     "live weighed 3 0 0 / 3 0", "live live free 5 2", "\nlive free 5 2", "live shadow",
                     "live free 5 2\r"):
            self.refuses(bad(0), led_live, text)
            self.refuses(bad(0), led_live, text + "\nshadow")
        for wrong in TEXTS_NOT:
            self.refuses(bad(0), led_live, wrong)

    def test_wrong_lines_behind(self):
        head = "live exchange 3 2\nback\nfree free 3 1"
        self.assertEqual(led_live(head).standing, 2)
        for line in ("", " ", "shadow ", "undo", "redo", "live exchange 3 2", "put 1", "put 0 1 2 0",
                     "put 0 0 0 0 0 0 0 0 3", "put 0 0 0 0 0 0 0 0 96", "bar 3 0 0 0 0 0 0 0 0", "led 1 0 / 0 1",
                     "led 1 0 0 / 0 1 0 / 0 0 4", "led 1 0 0 / 0 1 0 / 0 0 0", "led 1 0 0 / 0 1 0 / 1 1 0",
                     "join free 3 2", "join free 5 3", "meet shut 2 3", "free free 3 7", "shut free 2 1",
                     "ahead free 4 1", "behind minus 3 9", "join rules 3 3 3 0 0 0 0 0 0 0 0",
                     "sum a 0 1", "book", "mark a"):
            self.refuses(bad(3), led_live, head + "\n" + line)
            self.refuses(bad(3), led_live, head + "\n" + line + "\nshadow\nwrong")
        self.refuses(bad(1), led_live, "live exchange 3 2\n")

    def test_wrong_at_any_place(self):
        for seed, start in enumerate(STARTS):
            numbers = Numbers(seed + 5)
            live = lived(seed + 90, start, 12)
            lines = journal_text(live).split("\n")
            for _ in range(40):
                changed = list(lines)
                at = 1 + numbers.below(len(lines))
                deed = chance_deed(numbers, (live.prime, 2, 7)[numbers.below(3)], 1 + numbers.below(3))
                changed[at:at + numbers.below(2)] = [self.written(deed)]
                wanted = self.first_wrong(start, changed)
                if wanted is None:
                    self.assertEqual(journal_text(led_live("\n".join(changed))), "\n".join(changed))
                else:
                    self.refuses(bad(wanted), led_live, "\n".join(changed))

    def written(self, deed):
        found = tried(deed_text, deed)
        return found[0] if len(found) == 1 else "put 0 -1"

    def first_wrong(self, start, lines):
        """The first line that a live rule book that has done what is told ahead of it would not write so; None."""
        live = LiveBook(start)
        for at, line in enumerate(lines[1:]):
            ahead = live.standing
            parts = line.split(" ")
            deeds = self.told(parts)
            if deeds:
                tried(live.do, deeds[0])
            if live.standing == ahead or deed_text(live.deeds()[-1]) != line:
                return at + 1
        return None

    def told(self, parts):
        """The deed of a line that is right in its form, [] for others."""
        word, behind = parts[0], " ".join(parts[1:])
        if word in ("shadow", "back"):
            return [(word,)]
        if word in ("put", "bar", "led"):
            rows = [[int(x) for x in row.split(" ")] for row in behind.split(" / ")]
            return [(word, rows if word == "led" else rows[0])]
        start = behind.split(" ")
        if start[0] == "weighed":
            rows = [[int(x) for x in row.split(" ")] for row in " ".join(start[2:]).split(" / ")]
            return [(word, ("weighed", int(start[1]), rows))]
        if start[0] == "rules":
            rows = [[int(x) for x in row.split(" ")] for row in " ".join(start[3:]).split(" / ")] if start[3:] else []
            return [(word, ("rules", int(start[1]), int(start[2]), rows))]
        return [(word, (start[0], int(start[1]), int(start[2])))]

    def test_wrong_live_books(self):
        for wrong in LIVE_NOT:
            self.refuses("BadLive", journal_text, wrong)


if __name__ == "__main__":
    unittest.main()
