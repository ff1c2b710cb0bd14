import unittest

import plain
from asking import Asks
from livesamples import (
    DEEDS, NO_DEEDS, NO_STARTS, REFUSED, STARTS, chance_deed, lived, plain_deed, state, tried)
from ruleshadows.books import exchange_book, free_book
from ruleshadows.desk import Desk
from ruleshadows.live import LiveBook, started
from ruleshadows.mirrors import mirrored, mirrored_deed, mirrored_start
from ruleshadows.shadows import shadow
from samples import Numbers

LIVE_NOT = (None, 0, "x", ("free", 2, 1), free_book(2, 1), Desk(("free", 2, 1)), [LiveBook(("free", 2, 1))], {})
OTHER = {"put": "bar", "bar": "put", "join": "meet", "meet": "join", "free": "shut", "shut": "free", "ahead": "behind",
         "behind": "ahead"}


def plainly_mirrored(prime, deed):
    """The mirrored deed by its own words; None for a table that cannot be undone."""
    if deed[0] == "led":
        back = plain.undone(prime, deed[1])
        return back and ("led", plain.transposed(back))
    if deed[0] in ("put", "bar"):
        return (OTHER[deed[0]], plain_deed(prime, deed)[1])
    if len(deed) == 1:
        return deed
    book = started(deed[1])
    return (OTHER[deed[0]], ("rules", book.prime, book.letters, shadow(book).rules))


class Mirrors(Asks, unittest.TestCase):
    def test_starts(self):
        for start in STARTS:
            book, found = started(start), mirrored_start(start)
            self.assertEqual(found, ("rules", book.prime, book.letters, shadow(book).rules))
            self.assertEqual(started(found), shadow(book))
            self.assertEqual(started(mirrored_start(found)), book)
        self.assertEqual(mirrored_start(("exchange", 3, 2)),
                         ("rules", 3, 2, ((1, 0, 0, 0), (0, 1, 1, 0), (0, 0, 0, 1))))
        self.assertEqual(mirrored_start(("shut", 3, 2)), ("rules", 3, 2, ()))
        for wrong in NO_STARTS:
            self.refuses("BadStart", mirrored_start, wrong)
        for start, error in REFUSED:
            self.refuses(error, mirrored_start, start)

    def test_deeds_by_their_own_words(self):
        some = 0
        for prime in (2, 3, 7, 97):
            for deed in DEEDS:
                wanted = plainly_mirrored(prime, deed)
                if wanted is None:
                    some += 1
                    self.refuses("BadTable", mirrored_deed, prime, deed)
                else:
                    self.assertEqual(mirrored_deed(prime, deed), wanted)
            numbers = Numbers(prime)
            for _ in range(60):
                deed = chance_deed(numbers, prime, 2)
                wanted = plainly_mirrored(prime, deed)
                found = tried(mirrored_deed, prime, deed)
                self.assertEqual(found[0] if wanted else found[0].__name__, wanted or "BadTable", deed)
                if wanted:
                    # Back again, but for starts, which are told by rules then.
                    again = mirrored_deed(prime, wanted)
                    self.assertEqual(again[0], deed[0])
                    if deed[0] in ("put", "bar", "led", "shadow", "back"):
                        self.assertEqual(again, plain_deed(prime, deed))
        self.assertGreater(some, 4)
        self.assertEqual(mirrored_deed(5, ("put", [6, 0, -1, 5])), ("bar", (1, 0, 4, 0)))
        self.assertEqual(mirrored_deed(5, ("bar", [6])), ("put", (1,)))
        self.assertEqual(mirrored_deed(5, ("led", [[1, 1], [0, 2]])), ("led", ((1, 0), (2, 3))))
        self.assertEqual(mirrored_deed(5, ("ahead", ("free", 3, 1))), ("behind", ("rules", 3, 1, ((1,),))))

    def test_heart_the_mirror_has_the_shadow(self):
        some = {}
        for seed, start in enumerate(STARTS * 3):
            live = lived(seed, start, 15)
            for deed in live.deeds():
                some[deed[0]] = some.get(deed[0], 0) + 1
            made = mirrored(live)
            self.assertIsInstance(made, LiveBook)
            self.assertEqual(made.book, shadow(live.book), (start, live.deeds()))
            self.assertEqual(made.deeds(), [mirrored_deed(live.prime, deed) for deed in live.deeds()])
            self.assertEqual((made.start, made.standing), (mirrored_start(live.start), live.standing))
            self.assertEqual(mirrored(made).book, live.book)
            self.assertEqual(made.told()["back"], live.told()["back"])
        self.assertTrue(len(some) == 11 and all(times > 3 for times in some.values()), some)

    def test_what_is_watched_and_marked_stays_behind(self):
        live = LiveBook(("exchange", 3, 2))
        live.watch_sum("a", 1, [1, 2])
        live.mark("m")
        live.do(("back",))
        live.do(("shadow",))
        live.undo()
        before = state(live)
        made = mirrored(live=live)
        self.assertEqual((made.watched(), made.marks(), made.deeds()), ({}, [], [("back",)]))
        self.refuses("NothingLeft", made.redo)
        made.undo()
        self.assertEqual(made.book, shadow(exchange_book(3, 2)))
        self.assertEqual(state(live), before)

    def test_wrong_inputs_in_sequence(self):
        for wrong in (None, True, 0, 1, 4, 98, 101, "3"):
            self.refuses("BadPrime", mirrored_deed, wrong, None)
        for wrong in NO_DEEDS:
            self.refuses("BadDeed", mirrored_deed, 3, wrong)
        self.refuses("BadTable", mirrored_deed, 3, ("led", [[1, 1], [1, 4]]))
        self.refuses("BadTable", mirrored_deed, 3, ("led", [[3]]))
        for wrong in LIVE_NOT:
            self.refuses("BadLive", mirrored, wrong)


if __name__ == "__main__":
    unittest.main()
