import unittest

from asking import Asks
from livesamples import NO_STARTS, REFUSED, STARTS, chance_deed, lived, state, tried
from ruleshadows.deedtexts import deed_text
from ruleshadows.desk import Desk
from ruleshadows.journals import journal_text, led_live
from ruleshadows.live import LiveBook, started
from ruleshadows.texts import book_text
from samples import Numbers


def row_text(row):
    return " ".join(str(x) for x in row)


def rows_text(rows):
    return " / ".join(row_text(row) for row in rows)


class Desks(Asks, unittest.TestCase):
    def say(self, desk, *lines):
        """Each line with its answer; what is refused or not known changes nothing."""
        for line, wanted in lines:
            before = state(desk.live)
            answer = desk.say(line)
            self.assertIs(answer.__class__, str)
            self.assertEqual(answer, wanted, line)
            if answer in ("refused", "?", "no"):
                self.assertEqual(state(desk.live), before, line)

    def test_new_ones(self):
        for start in STARTS:
            desk = Desk(start)
            self.assertIsInstance(desk.live, LiveBook)
            self.assertEqual(desk.live.book, started(start))
        for wrong in NO_STARTS:
            self.refuses("BadStart", Desk, wrong)
        for start, error in REFUSED:
            self.refuses(error, Desk, start)
        self.assertEqual(Desk(start=("free", 2, 1)).say(line="letters"), "1")

    def test_deeds(self):
        desk = Desk(("exchange", 3, 2))
        self.say(desk, ("shadow", "done"), ("back", "done"), ("put 0 5 96 1", "done"), ("bar 1 0 0 0", "done"),
                 ("led 1 0 / 4 7", "done"), ("led 1 0 / 0 96", "refused"), ("join minus 3 2", "done"),
                 ("meet rules 3 2 1 0 0 2 / 0 1 1 0", "done"), ("free weighed 3 0", "done"), ("put 1", "refused"),
                 ("join minus 3 2", "refused"), ("free free 2 1", "refused"), ("shut free 3 7", "refused"),
                 ("ahead minus 3 1", "done"), ("behind free 3 1", "done"), ("put 1 2", "?"), ("put 0 97 0 0", "?"),
                 ("join minus 4 2", "?"), ("join rules 3 1 3", "?"), ("led 1 0", "?"), ("put", "?"), ("led", "?"))
        self.assertEqual(desk.live.deeds()[2], ("put", (0, 2, 0, 1)))
        self.assertEqual(desk.live.deeds()[4], ("led", ((1, 0), (1, 1))))
        self.assertEqual(desk.live.standing, 10)

    def test_undo_and_redo(self):
        desk = Desk(("free", 3, 2))
        self.say(desk, ("undo", "refused"), ("redo", "refused"), ("shadow", "done"), ("redo", "refused"),
                 ("undo", "done"), ("undo", "refused"), ("redo", "done"), ("redo", "refused"))
        desk = Desk(("free", 3, 2))
        self.say(desk, ("free free 3 2", "done"), ("undo", "done"), ("sum a 5 " + row_text([1] * 32), "done"),
                 ("redo", "refused"), ("free free 3 2", "refused"), ("drop a", "done"), ("redo", "done"))

    def test_what_is_asked(self):
        desk = Desk(("exchange", 3, 2))
        self.say(desk, ("letters", "2"), ("rules", "1"), ("counts", "1 2 3 4"), ("book", "book 3 2\nrule 0 1 2 0"),
                 ("journal", "live exchange 3 2"), ("shadow", "done"), ("letters", "2"), ("rules", "3"),
                 ("counts", "1 2 1 0"), ("book", "book 3 2\nrule 1 0 0 0\nrule 0 1 1 0\nrule 0 0 0 1"),
                 ("journal", "live exchange 3 2\nshadow"), ("free free 3 1", "done"), ("letters", "3"),
                 ("counts", "1 3 6 13"), ("journal", "live exchange 3 2\nshadow\nfree free 3 1"))

    def test_watching(self):
        desk = Desk(("exchange", 5, 2))
        self.say(desk, ("sum b 1 2 3", "done"), ("tell a 1 4 1", "done"), ("tell c 1 0 1", "done"),
                 ("sum d 0 3", "done"), ("value a b", "1"), ("value b a", "1"), ("value b c", "3"), ("value c b", "3"),
                 ("value a c", "refused"), ("value b d", "refused"), ("value a a", "refused"), ("value a x", "refused"),
                 ("sum e 2 0 1 0 0", "done"), ("rest e", "0 0 1 0"), ("rest b", "2 3"), ("rest d", "3"),
                 ("rest x", "refused"), ("shadow", "done"), ("rest e", "0 0 1 0"), ("put 0 1 0 0", "done"),
                 ("value b a", "1"), ("drop b", "done"), ("drop b", "refused"),
                 ("value a b", "refused"), ("rest b", "refused"), ("drop x", "refused"), ("tell a 2 0 0 0 0", "done"),
                 ("rest a", "0 0 0 0"))
        self.assertEqual(desk.live.watched(),
                         {"a": ("tell", 2, (0, 0, 0, 0)), "c": ("sum", 1, (0, 1)), "d": ("tell", 0, (3,)),
                          "e": ("tell", 2, (0, 1, 0, 0))})

    def test_wrong_lines_to_watch(self):
        desk = Desk(("exchange", 5, 2))
        self.say(desk, ("sum a 1 2", "refused"), ("sum a 1 2 3 4", "refused"), ("tell a 0 1 2", "refused"),
                 ("tell a 9 1", "refused"), ("sum a 9 " + row_text([1] * 512), "done"),
                 ("sum a 8 " + row_text([1] * 512), "refused"),
                 ("sum a 10 1", "?"), ("sum a 1", "?"), ("sum a", "?"), ("sum", "?"), ("sum ", "?"), ("sum a 1 ", "?"),
                 ("sum a 1 5 0", "?"), ("sum a 1 -1 0", "?"), ("sum a 1 00 1", "?"), ("sum a 01 1 0", "?"),
                 ("sum a x 1 0", "?"), ("sum A 1 1 0", "?"), ("sum abcdefghi 1 1 0", "?"), ("sum a1 1 1 0", "?"),
                 ("sum  1 1 0", "?"), ("sum a  1 1 0", "?"), ("sum a 1  1 0", "?"), ("tell a 1 1 0 ", "?"),
                 (" tell a 1 1 0", "?"), ("tell a 1 1 / 0", "?"), ("tell a 1 1\n0", "?"), ("sum a -1 1", "?"),
                 ("sum a 1 x 0", "?"), ("Sum a 1 1 0", "?"), ("tell abcdefgh 1 1 0", "done"))
        desk = Desk(("free", 5, 9))
        self.say(desk, ("sum a 4 1", "refused"), ("sum a 9 1", "refused"), ("sum a 3 " + row_text([4] * 729), "done"))

    def test_names(self):
        desk = Desk(("free", 5, 2))
        self.say(desk, ("sum a 0 1", "done"), ("tell b 0 1", "done"))
        for word in ("drop", "rest", "mark", "since"):
            for name in ("", " ", "A", "a1", "abcdefghi", "a b", "a ", " a", "\u00e9", "a\n"):
                self.say(desk, (word + " " + name, "?"))
            self.say(desk, (word, "?"))
        for behind in ("", " a b", " a", " a  b", " a b ", " a B", " a b c", " a bcdefghij", " 1 b"):
            self.say(desk, ("value" + behind, "?" if behind != " a b" else "1"))

    def test_marks(self):
        desk = Desk(("free", 5, 2))
        self.say(desk, ("since a", "refused"), ("mark a", "done"), ("since a", "sum 1 0 / 0 1"), ("back", "done"),
                 ("since a", "sum turned 1 0 / 0 1"), ("led 1 1 / 0 2", "done"), ("since a", "sum turned 1 1 / 0 2"),
                 ("shadow", "done"), ("back", "done"), ("since a", "tell 1 1 / 0 2"), ("mark b", "done"),
                 ("ahead free 5 1", "done"), ("since a", "tell 1 1 0 / 0 2 0"), ("since b", "sum 1 0 0 / 0 1 0"),
                 ("undo", "done"), ("undo", "done"), ("since b", "no"), ("since a", "tell turned 1 1 / 0 2"),
                 ("mark a", "done"), ("since a", "sum 1 0 / 0 1"), ("since x", "refused"))
        desk = Desk(("free", 5, 1))
        self.say(desk, ("mark z", "done"), ("led 3", "done"), ("since z", "sum 3"), ("shadow", "done"),
                 ("led 3", "done"), ("since z", "tell 1"), ("back", "done"), ("since z", "tell turned 1"))

    def test_all_else(self):
        desk = Desk(("exchange", 3, 2))
        desk.say("mark a")
        for line in (None, True, 0, b"shadow", ["shadow"], ("shadow",), {}, "", " ", "?", "done", "shadow ", " shadow",
                     "Shadow", "SHADOW", "undo ", "undo 1", "redo redo", "letters 2", "rules 3 2", "rules ",
                     "counts x", "book 3 2", "journal\n", "\nundo", "live exchange 3 2", "free 3 2", "exchange 3 2",
                     "told", "deeds", "watched", "unwatch a", "back\nback", "shadow\n", "marks", "undo\r"):
            self.say(desk, (line, "?"))

    def test_lines_as_the_live_rule_book_itself(self):
        for seed, start in enumerate(STARTS):
            numbers = Numbers(seed + 33)
            desk, live = Desk(start), LiveBook(start)
            for _ in range(40):
                way = numbers.below(8)
                if way < 2:
                    line, given = (("undo", (live.undo,)), ("redo", (live.redo,)))[way]
                elif way == 2:
                    name, length = "abc"[numbers.below(3)], numbers.below(3)
                    row = numbers.row(live.book.letters ** length, live.prime)
                    kind, watch = (("sum", live.watch_sum), ("tell", live.watch_tell))[numbers.below(2)]
                    line, given = f"{kind} {name} {length} {row_text(row)}", (watch, name, length, row)
                elif way == 3:
                    line, given = "mark m", (live.mark, "m")
                else:
                    deed = chance_deed(numbers, live.prime, live.book.letters)
                    if len(tried(deed_text, deed)) == 2:
                        continue
                    line, given = deed_text(deed), (live.do, deed)
                found = tried(*given)
                self.say(desk, (line, "done" if len(found) == 1 else "refused"))
                if live.book.letters > 3:
                    live.undo()
                    self.say(desk, ("undo", "done"))
                self.assertEqual(state(desk.live), state(live))
                self.check_answers(desk, live)

    def check_answers(self, desk, live):
        told = live.told()
        self.say(desk, ("letters", str(told["letters"])), ("rules", str(told["rules"])),
                 ("counts", row_text(told["counts"])), ("book", book_text(live.book)), ("journal", journal_text(live)))
        for one in "abc":
            rests = live.rests_told()
            self.say(desk, ("rest " + one, row_text(rests[one]) if one in rests else "refused"))
            for other in "abc":
                values, pair = live.values_told(), tuple(sorted((one, other)))
                self.say(desk, (f"value {one} {other}", str(values[pair]) if pair in values else "refused"))
        if "m" in live.marks():
            carried = live.carried("m")
            wanted = "no" if carried is None else " ".join(
                [carried[0]] + ["turned"] * carried[1] + [rows_text(carried[2])])
            self.say(desk, ("since m", wanted))
        else:
            self.say(desk, ("since m", "refused"))

    def test_a_journal_spoken_line_by_line(self):
        for seed, start in enumerate(STARTS):
            live = lived(seed + 200, start, 12)
            desk = Desk(live.start)
            for line in journal_text(live).split("\n")[1:]:
                self.say(desk, (line, "done"))
            self.assertEqual(desk.say("journal"), journal_text(live))
            self.assertEqual(led_live(desk.say("journal")).book, live.book)
            self.assertEqual(desk.say("book"), book_text(live.book))


if __name__ == "__main__":
    unittest.main()
