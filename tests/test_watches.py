import unittest

import plain
from asking import MANY, NUMBERS_NOT, Asks, number
from livesamples import SIDES, STARTS, chance_deed, state, tried
from restsamples import rest_of
from ruleshadows.live import LiveBook, started
from ruleshadows.rests import rest
from ruleshadows.shadows import shadow
from samples import Numbers, chance_row, told

NAMES_NOT = (None, True, 3, "", "A", "a1", "a b", "abcdefghi", "a\n", b"a", ["a"], ("a",), "\u00e9", "aB", " ", "-")


def by_words(letters, length, row):
    return {word: x for word, x in zip(plain.words(letters, length), row)}


def plainly_along(prime, letters, deed, watch):
    """What a deed makes of what is watched, word by word."""
    kind, length, row = watch
    if deed[0] == "shadow":
        return ({"sum": "tell", "tell": "sum"}[kind], length, row)
    if deed[0] == "back":
        told_words = by_words(letters, length, row)
        return (kind, length, tuple(told_words[word[::-1]] for word in plain.words(letters, length)))
    if deed[0] == "led":
        table = deed[1] if kind == "sum" else plain.transposed(plain.undone(prime, deed[1]))
        return (kind, length, plain.led(prime, letters, length, row, table))
    if deed[0] in SIDES:
        told_words = by_words(letters, length, row)
        more = letters + started(deed[1]).letters
        return (kind, length, tuple(told_words.get(word, 0) for word in plain.words(more, length)))
    return watch


def watching(seed, start, most=3):
    """A live rule book with two sums and two tells of lengths up to most."""
    live = LiveBook(start)
    letters = live.book.letters
    numbers = Numbers(seed)
    for name, watch in (("s", live.watch_sum), ("t", live.watch_tell), ("u", live.watch_sum), ("a", live.watch_tell)):
        length = numbers.below(most + 1)
        watch(name, length, numbers.row(letters ** length, 3 * live.prime))
        watch(name + name, most - 1, numbers.row(letters ** (most - 1), live.prime))
    return live


class Watches(Asks, unittest.TestCase):
    def test_watched(self):
        live = LiveBook(("exchange", 3, 2))
        self.assertIsNone(live.watch_sum("b", 1, [4, -1]))
        self.assertIsNone(live.watch_tell("a", 0, (5,)))
        self.assertIsNone(live.watch_sum(name="zzzzzzzz", length=2, row=[0, 0, 0, 0]))
        found = live.watched()
        self.assertEqual(found, {"a": ("tell", 0, (2,)), "b": ("sum", 1, (1, 2)), "zzzzzzzz": ("sum", 2, (0, 0, 0, 0))})
        self.assertEqual(list(found), ["a", "b", "zzzzzzzz"])
        self.assertTrue(all(isinstance(watch, tuple) and isinstance(watch[2], tuple) for watch in found.values()))
        found.clear()
        # What had the name is no longer watched.
        self.assertIsNone(live.watch_tell("b", 2, [1, 0, 0, 2]))
        self.assertEqual(live.watched()["b"], ("tell", 2, (1, 0, 0, 2)))
        self.assertIsNone(live.unwatch("a"))
        self.assertEqual(list(live.watched()), ["b", "zzzzzzzz"])
        self.refuses(("NoWatch", "a"), live.unwatch, "a")

    def test_names(self):
        live = LiveBook(("exchange", 3, 2))
        live.watch_sum("a", 1, [1, 0])
        before = state(live)
        for wrong in NAMES_NOT:
            self.refuses("BadName", live.watch_sum, wrong, None, None)
            self.refuses("BadName", live.watch_tell, wrong, None, None)
            self.refuses("BadName", live.mark, wrong)
            with self.assertRaises(ValueError) as caught:
                live.unwatch(wrong)
            self.assertEqual(caught.exception.__class__.__name__, "NoWatch")
            self.assertIs(caught.exception.name, wrong)
        self.assertEqual(state(live), before)
        for name in ("a", "z", "abcdefgh"):
            live.watch_sum(name, 0, [1])
            live.unwatch(name)

    def test_wrong_inputs_in_sequence(self):
        live = LiveBook(("exchange", 3, 2))
        for watch in (live.watch_sum, live.watch_tell):
            for wrong in NUMBERS_NOT + (-1,):
                self.refuses(number("length"), watch, "a", wrong, None)
            self.refuses(MANY, watch, "a", 10, None)
            for wrong in (None, 0, [], [1] * 3, [1] * 5, [1, 0, 0, True], "abcd", {0: 0}):
                self.refuses("BadRow", watch, "a", 2, wrong)
            self.assertEqual(live.watched(), {})
        self.refuses(("NoWatch", "a"), live.unwatch, "a")
        live.do(("free", ("free", 3, 1)))
        self.refuses("BadRow", live.watch_sum, "a", 1, [1, 0])
        live.watch_sum("a", 1, [1, 0, 0])

    def test_led_along_word_by_word(self):
        some = {}
        for seed, start in enumerate(STARTS):
            live, numbers = watching(seed, start), Numbers(seed + 9)
            for _ in range(60):
                deed = chance_deed(numbers, live.prime, live.book.letters)
                before, letters, standing = live.watched(), live.book.letters, live.standing
                tried(live.do, deed)
                if live.standing > standing:
                    some[deed[0]] = some.get(deed[0], 0) + 1
                    wanted = {name: plainly_along(live.prime, letters, deed, watch) for name, watch in before.items()}
                    self.assertEqual(live.watched(), wanted, deed)
                    self.assertTrue(all(0 <= x < live.prime for watch in live.watched().values() for x in watch[2]))
                else:
                    self.assertEqual(live.watched(), before)
                if live.book.letters > 3:
                    live.undo()
                    self.assertEqual(live.watched(), before)
        self.assertTrue(len(some) == 11 and all(times > 20 for times in some.values()), some)

    def test_values_and_their_heart(self):
        some = 0
        for seed, start in enumerate(STARTS * 2):
            live, numbers = watching(seed + 40, start), Numbers(seed + 70)
            wanted = self.plain_values(live)
            for _ in range(25):
                tried(live.do, chance_deed(numbers, live.prime, live.book.letters))
                if live.book.letters > 3:
                    live.undo()
                found = live.values_told()
                self.assertEqual(found, wanted)
                self.assertEqual(list(found), sorted(found))
            some += sum(1 for value in wanted.values() if value)
        self.assertGreater(some, 60)

    def plain_values(self, live):
        found, watches = {}, live.watched()
        for one in watches:
            for other in watches:
                kinds = {watches[one][0], watches[other][0]}
                if one < other and len(kinds) == 2 and watches[one][1] == watches[other][1]:
                    found[one, other] = sum(x * y for x, y in zip(watches[one][2], watches[other][2])) % live.prime
        self.assertEqual(live.values_told(), found)
        return found

    def test_values_by_hand(self):
        live = LiveBook(("free", 5, 2))
        live.watch_sum("b", 1, [2, 3])
        live.watch_tell("a", 1, [4, 1])
        live.watch_tell("c", 1, [0, 1])
        live.watch_sum("d", 0, [3])
        live.watch_tell("e", 0, [4])
        self.assertEqual(live.values_told(), {("a", "b"): 1, ("b", "c"): 3, ("d", "e"): 2})
        live.do(("led", [[1, 1], [0, 2]]))
        self.assertEqual(live.watched()["b"], ("sum", 1, (2, 3)))
        self.assertEqual(live.watched()["a"], ("tell", 1, (1, 3)))
        live.do(("shadow",))
        self.assertEqual(live.watched()["b"], ("tell", 1, (2, 3)))
        self.assertEqual(live.values_told(), {("a", "b"): 1, ("b", "c"): 3, ("d", "e"): 2})
        live.unwatch("b")
        self.assertEqual(live.values_told(), {("d", "e"): 2})

    def test_rests_by_full_rows(self):
        for seed, start in enumerate(STARTS):
            live, numbers = watching(seed + 20, start), Numbers(seed + 30)
            for _ in range(12):
                tried(live.do, chance_deed(numbers, live.prime, live.book.letters))
                if live.book.letters > 3:
                    live.undo()
            found = live.rests_told()
            self.assertEqual(list(found), sorted(live.watched()))
            for name, (kind, length, row) in live.watched().items():
                book = live.book if kind == "sum" else shadow(live.book)
                self.assertIsInstance(found[name], tuple)
                self.assertEqual(found[name], rest_of(book, length, row), (told(book), row))
        self.assertEqual(LiveBook(("free", 3, 1)).rests_told(), {})

    def test_facts_which_deeds_leave_nothing_nothing(self):
        some = {True: 0, False: 0}
        for seed in range(60):
            numbers = Numbers(seed + 500)
            start = STARTS[seed % len(STARTS)]
            live = LiveBook(start)
            letters, prime = live.book.letters, live.prime
            for k, length in enumerate((2, 2, 3)):
                if letters ** length > 30:
                    continue
                for name, watch, book in (("s", live.watch_sum, live.book), ("t", live.watch_tell, shadow(live.book))):
                    row = chance_row(letters ** length, prime, seed + k)
                    left = rest(book, length, row)
                    watch(name + "ab"[k % 2], length, [x - y for x, y in zip(row, left)])
                    watch(name + "cd"[k % 2], length, row)
            deed = chance_deed(numbers, prime, letters)
            before = {name: any(row) for name, row in live.rests_told().items()}
            kinds = {name: watch[0] for name, watch in live.watched().items()}
            if len(tried(live.do, deed)) == 2:
                continue
            after = {name: any(row) for name, row in live.rests_told().items()}
            for name in before:
                if deed[0] in SIDES + ("led", "back", "shadow"):
                    self.assertIs(after[name], before[name], (start, deed))
                    some[before[name]] += 1
                elif kinds[name] == {"put": "sum", "join": "sum", "bar": "tell", "meet": "tell"}[deed[0]]:
                    self.assertFalse(after[name] and not before[name], (start, deed))
                    some[before[name]] += 1
        self.assertTrue(some[True] > 40 and some[False] > 40, some)

    def test_undo_brings_back_what_was_watched_just_ahead_of_the_deed(self):
        live = LiveBook(("exchange", 3, 2))
        live.watch_sum("a", 1, [1, 2])
        live.do(("free", ("free", 3, 1)))
        live.watch_tell("b", 1, [1, 1, 1])
        live.unwatch("a")
        live.do(("shadow",))
        self.assertEqual(live.watched(), {"b": ("sum", 1, (1, 1, 1))})
        live.undo()
        self.assertEqual(live.watched(), {"b": ("tell", 1, (1, 1, 1))})
        live.undo()
        self.assertEqual(live.watched(), {"a": ("sum", 1, (1, 2))})
        # What is watched by now goes along when the deed is done again.
        live.watch_tell("c", 0, [2])
        live.redo()
        self.assertEqual(live.watched(), {"a": ("sum", 1, (1, 2, 0)), "c": ("tell", 0, (2,))})
        live.redo()
        self.assertEqual(live.watched(), {"a": ("tell", 1, (1, 2, 0)), "c": ("sum", 0, (2,))})
        self.refuses("NothingLeft", live.redo)

    def test_what_has_been_watched_since_may_be_too_much_to_redo(self):
        live = LiveBook(("exchange", 3, 2))
        live.do(("ahead", ("free", 3, 2)))
        live.do(("shadow",))
        live.undo()
        live.undo()
        live.watch_sum("a", 5, [1] * 32)
        before = state(live)
        self.refuses(MANY, live.redo)
        self.refuses(MANY, live.do, ("free", ("free", 3, 2)))
        self.assertEqual(state(live), before)
        live.unwatch("a")
        live.redo()
        live.redo()
        self.assertEqual(live.deeds(), [("ahead", ("free", 3, 2)), ("shadow",)])

    def test_long_words_of_one_letter(self):
        live = LiveBook(("free", 3, 1))
        live.watch_sum("a", 300, [2])
        live.do(("back",))
        live.do(("led", [[2]]))
        self.assertEqual(live.watched(), {"a": ("sum", 300, (2,))})
        live.watch_sum("a", 301, [2])
        live.do(("led", [[2]]))
        self.assertEqual(live.watched(), {"a": ("sum", 301, (1,))})
        self.assertEqual(live.rests_told(), {"a": (1,)})
        self.refuses(MANY, live.do, ("free", ("free", 3, 1)))
        live.do(("join", ("shut", 3, 1)))
        self.assertEqual(live.rests_told(), {"a": (0,)})


if __name__ == "__main__":
    unittest.main()
