import unittest

import plain
from asking import MANY, Asks, number
from livesamples import (
    DEEDS, NO_DEEDS, NO_STARTS, REFUSED, STARTS, afresh, chance_deed, lived, plain_deed, plain_start, state, tried)
from ruleshadows.books import (
    Rules, book_led, exchange_book, free_book, minus_book, read_back, shut_book, weighed_book)
from ruleshadows.live import LiveBook, is_deed, started
from ruleshadows.rests import count
from ruleshadows.shadows import common_rules, joined_rules, shadow
from ruleshadows.sides import ahead_sides, behind_sides, free_sides, shut_sides
from samples import Numbers, told

MAKERS = {"rules": Rules, "free": free_book, "shut": shut_book, "exchange": exchange_book, "minus": minus_book,
          "weighed": weighed_book}
SIDES = {"join": joined_rules, "meet": common_rules, "free": free_sides, "shut": shut_sides, "ahead": ahead_sides,
         "behind": behind_sides}


def after(book, deed):
    """What a deed makes of a book, by its own words."""
    if deed[0] == "shadow":
        return shadow(book)
    if deed[0] == "back":
        return read_back(book)
    if deed[0] == "put":
        return Rules(book.prime, book.letters, list(book.rules) + [deed[1]])
    if deed[0] == "bar":
        # Sums of multiples of the rules of which the row tells 0.
        numbers = [sum(x * y for x, y in zip(rule, deed[1])) for rule in book.rules]
        kept = plain.dark(book.prime, [numbers], len(numbers)) if numbers else []
        rows = [plain.summed(book.prime, book.rules, times, len(deed[1])) for times in kept]
        return Rules(book.prime, book.letters, rows)
    if deed[0] == "led":
        return book_led(book, deed[1])
    return SIDES[deed[0]](book, MAKERS[deed[1][0]](*deed[1][1:]))


class Live(Asks, unittest.TestCase):
    def test_started(self):
        for start in STARTS:
            found = started(start)
            self.assertIsInstance(found, Rules)
            self.assertEqual(found, MAKERS[start[0]](*start[1:]), start)

    def test_no_starts(self):
        for function in (started, LiveBook):
            for wrong in NO_STARTS:
                self.refuses("BadStart", function, wrong)
            for start, error in REFUSED:
                self.refuses(error, function, start)

    def test_is_deed(self):
        for deed in DEEDS:
            self.assertIs(is_deed(deed), True, deed)
        for wrong in NO_DEEDS:
            self.assertIs(is_deed(wrong), False, wrong)
        for start in STARTS:
            self.assertIs(is_deed(("join", start)), True)
            self.assertIs(is_deed((start[0], start)), start[0] in ("free", "shut"), start)
        for start, _ in REFUSED:
            self.assertIs(is_deed(("behind", start)), False)
        for letters in range(1, 10):
            self.assertIs(is_deed(("put", [1] * letters ** 2)), True)
            self.assertIs(is_deed(("put", [1] * (letters ** 2 + 1))), False)
            self.assertIs(is_deed(("led", [[1] * letters] * letters)), True)

    def test_new_ones(self):
        for start in STARTS:
            live = LiveBook(start)
            self.assertEqual(live.book, started(start))
            self.assertEqual((live.prime, live.start, live.standing), (start[1], plain_start(start), 0))
            self.assertIsInstance(live.start, tuple)
            self.assertEqual((live.deeds(), live.watched(), live.marks()), ([], {}, []))
            self.assertEqual((live.values_told(), live.rests_told()), ({}, {}))
            self.refuses("NothingLeft", live.undo)
            self.refuses("NothingLeft", live.redo)
        self.assertEqual(LiveBook(("rules", 5, 2, [[6, 0, -1, 5]])).start, ("rules", 5, 2, ((1, 0, 4, 0),)))
        self.assertEqual(LiveBook(("weighed", 5, [[6, 0], [-1, 5]])).start, ("weighed", 5, ((1, 0), (4, 0))))

    def test_each_deed_by_its_own_words(self):
        some = {}
        for seed, start in enumerate(STARTS):
            numbers = Numbers(seed)
            live = LiveBook(start)
            for _ in range(80):
                deed = chance_deed(numbers, live.prime, live.book.letters)
                before, deeds = live.book, live.deeds()
                wanted = tried(after, before, deed) if self.fits_size(before, deed) else None
                found = tried(live.do, deed)
                if wanted is not None and len(wanted) == 1:
                    self.assertEqual(found, (None,), deed)
                    self.assertEqual(live.book, wanted[0], (told(before), deed))
                    self.assertEqual(live.deeds(), deeds + [plain_deed(live.prime, deed)])
                    self.assertEqual(live.standing, len(deeds) + 1)
                    some[deed[0]] = some.get(deed[0], 0) + 1
                else:
                    self.assertIsNot(found[0], None, deed)
                    self.assertEqual((live.book, live.deeds(), live.standing), (before, deeds, len(deeds)))
                    some["refused"] = some.get("refused", 0) + 1
                if live.book.letters > 4:
                    live.undo()
        self.assertEqual(len(some), 12)
        self.assertTrue(all(times > 20 for times in some.values()), some)

    def fits_size(self, book, deed):
        return deed[0] not in ("put", "bar") or len(deed[1]) == book.letters ** 2

    def test_deeds_by_hand(self):
        live = LiveBook(("exchange", 5, 2))
        live.do(("put", [6, 0, 0, 0]))
        self.assertEqual(live.book, Rules(5, 2, [[0, 1, 4, 0], [1, 0, 0, 0]]))
        live.do(("bar", (1, 1, 0, 0)))
        self.assertEqual(live.book, Rules(5, 2, [[1, 4, 1, 0]]))
        live.do(("bar", [0, 0, 0, 3]))
        self.assertEqual(live.book, Rules(5, 2, [[1, 4, 1, 0]]))
        live.do(("led", [[0, 1], [1, 0]]))
        self.assertEqual(live.book, Rules(5, 2, [[0, 1, 4, 1]]))
        live.do(("free", ("shut", 5, 1)))
        self.assertEqual(live.book.letters, 3)
        self.assertEqual(live.deeds(), [("put", (1, 0, 0, 0)), ("bar", (1, 1, 0, 0)), ("bar", (0, 0, 0, 3)),
                                        ("led", ((0, 1), (1, 0))), ("free", ("shut", 5, 1))])
        live.do(("meet", ("weighed", 5, [[1, 0, 0], [7, 6, 0], [1, -1, 0]])))
        self.assertEqual(live.deeds()[-1], ("meet", ("weighed", 5, ((1, 0, 0), (2, 1, 0), (1, 4, 0)))))

    def test_refused_deeds_change_nothing(self):
        live = LiveBook(("exchange", 3, 2))
        live.do(("back",))
        live.do(("shadow",))
        live.undo()
        live.watch_sum("a", 2, [1, 2, 0, 1])
        live.mark("m")
        before = state(live)
        for wrong in NO_DEEDS:
            self.refuses("BadDeed", live.do, wrong)
        for deed, error in (
                (("put", [1]), "BadRow"), (("bar", [1] * 9), "BadRow"), (("led", [[1]]), "BadTable"),
                (("led", [[1, 1], [2, 2]]), "BadTable"), (("led", [[1, 0], [0, 3]]), "BadTable"),
                (("join", ("free", 5, 2)), ("BadBook", "prime")), (("meet", ("free", 5, 3)), ("BadBook", "prime")),
                (("join", ("free", 3, 3)), ("BadBook", "letters")), (("meet", ("shut", 3, 1)), ("BadBook", "letters")),
                (("free", ("free", 5, 9)), ("BadBook", "prime")), (("free", ("free", 3, 8)), number("letters")),
                (("shut", ("free", 3, 9)), number("letters")), (("ahead", ("free", 2, 1)), ("BadBook", "prime")),
                (("behind", ("shut", 3, 8)), number("letters"))):
            self.refuses(error, live.do, deed)
            self.assertEqual(state(live), before)
        live.redo()
        self.assertEqual(live.standing, 2)

    def test_undo_and_redo(self):
        for seed, start in enumerate(STARTS):
            live = lived(seed, start, 25)
            states, many = [state(live)], live.standing
            while live.standing:
                self.assertIsNone(live.undo())
                states.append(state(live))
            self.assertEqual(len(states), many + 1)
            self.assertEqual(live.book, started(start))
            self.refuses("NothingLeft", live.undo)
            for before in states[-2::-1]:
                self.assertIsNone(live.redo())
                self.assertEqual(state(live), before)
            self.refuses("NothingLeft", live.redo)

    def test_what_is_done_makes_an_end_of_what_was_taken_back(self):
        live = LiveBook(("free", 3, 2))
        for deed in (("shadow",), ("back",), ("put", [1, 0, 0, 0])):
            self.assertIsNone(live.do(deed))
        live.undo()
        live.undo()
        self.refuses("BadRow", live.do, ("put", [1]))
        live.redo()
        self.assertEqual(live.deeds(), [("shadow",), ("back",)])
        live.do(("shadow",))
        self.refuses("NothingLeft", live.redo)
        self.assertEqual(live.deeds(), [("shadow",), ("back",), ("shadow",)])

    def test_heart_as_if_done_afresh(self):
        for seed in range(26):
            numbers = Numbers(seed + 100)
            live = LiveBook(STARTS[seed % len(STARTS)])
            for _ in range(40):
                way = numbers.below(8)
                if way == 0:
                    tried(live.undo)
                elif way == 1:
                    tried(live.redo)
                else:
                    tried(live.do, chance_deed(numbers, live.prime, live.book.letters))
                if live.book.letters > 3:
                    live.undo()
                other = afresh(live)
                self.assertEqual(other.book, live.book)
                self.assertEqual(other.told(), live.told())
                self.assertEqual((other.standing, other.deeds()), (live.standing, live.deeds()))

    def test_told(self):
        for seed, start in enumerate(STARTS):
            live = lived(seed + 50, start, 12)
            book, found = live.book, live.told()
            self.assertEqual(list(found), ["back", "counts", "letters", "rules", "shadow"])
            self.assertEqual(found, {
                "back": read_back(book) == book, "counts": tuple(count(book, length) for length in range(4)),
                "letters": book.letters, "rules": len(book.rules), "shadow": shadow(book) == book})
            self.assertEqual([found[key].__class__ for key in found], [bool, tuple, int, int, bool])
        self.assertEqual(LiveBook(("rules", 2, 2, [[1, 0, 0, 1], [0, 1, 1, 0]])).told(), {
            "back": True, "counts": (1, 2, 2, 2), "letters": 2, "rules": 2, "shadow": True})
        self.assertEqual(LiveBook(("free", 2, 9)).told()["counts"], (1, 9, 81, 729))

    def test_parameters_by_name_and_nothing_shared(self):
        rows = [[1, 0, 0, 0]]
        live = LiveBook(start=("rules", 3, 2, rows))
        row, table = [0, 1, 0, 0], [[1, 1], [0, 1]]
        live.do(deed=("put", row))
        live.do(("led", table))
        live.do(("join", ("rules", 3, 2, rows)))
        for changed in (rows[0], row, table[0]):
            changed.append(5)
        rows.append([1, 1, 1, 1])
        self.assertEqual(live.start, ("rules", 3, 2, ((1, 0, 0, 0),)))
        found = live.deeds()
        self.assertEqual(found, [("put", (0, 1, 0, 0)), ("led", ((1, 1), (0, 1))),
                                 ("join", ("rules", 3, 2, ((1, 0, 0, 0),)))])
        found.clear()
        live.told().clear()
        self.assertEqual(len(live.deeds()), 3)
        self.assertEqual(len(live.told()), 5)
        self.assertNotEqual(live, 5)
        self.assertNotEqual(live, live.book)

    def test_a_deed_of_too_many_words_is_refused_last(self):
        live = LiveBook(("free", 3, 2))
        live.watch_sum("a", 6, [1] * 64)
        self.refuses(("BadBook", "prime"), live.do, ("free", ("free", 2, 2)))
        self.refuses(number("letters"), live.do, ("free", ("free", 3, 8)))
        for word in ("free", "shut", "ahead", "behind"):
            self.refuses(MANY, live.do, (word, ("free", 3, 2)))
            live.do((word, ("free", 3, 1)))
            self.assertEqual(len(live.watched()["a"][2]), 729)
            live.undo()


if __name__ == "__main__":
    unittest.main()
