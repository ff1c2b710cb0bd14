"""Starts, deeds and live rule books for the tests."""

from ruleshadows.errors import RuleError
from ruleshadows.live import LiveBook
from samples import Numbers, chance_table

# Starts that are right, the book of each told by its rules.
STARTS = (
    ("rules", 3, 2, [[1, 0, 0, 5], [0, 1, 1, 0]]), ("rules", 5, 2, ((0, 0, 0, 0), [6, 0, 0, -1])), ("rules", 7, 3, []),
    ("free", 5, 2), ("shut", 2, 1), ("exchange", 3, 3), ("minus", 97, 2), ("weighed", 5, [[0, 0], [7, -1]]),
    ("weighed", 3, ((1,),)), ("rules", 2, 1, [[1], [0], [3]]), ("minus", 3, 2), ("exchange", 2, 2),
    ("rules", 5, 2, [[1, 0, 0, 0], [0, 0, 1, -1]]),
)
# No starts at all.
NO_STARTS = (None, True, 0, "free", [], (), ("free",), ["free", 5, 2], ("free", 5), ("free", 5, 2, 1), ("rules", 5, 2),
             ("rules", 5, 2, [], []), ("weighed", 5), ("weighed", 5, 2, [[1]]), ("Free", 5, 2), ("", 5, 2),
             (5, 2, "free"), ((), 5, 2), ([], 5, 2), ("exchange ", 5, 2), (None, 5, 2), (True, 5, 2), {"free": 5})
# Starts whose book is refused, with the error.
REFUSED = (
    (("free", 4, 2), "BadPrime"), (("free", True, 2), "BadPrime"), (("shut", None, None), "BadPrime"),
    (("exchange", 3, 0), ("BadNumber", "letters")), (("minus", 3, 10), ("BadNumber", "letters")),
    (("free", 3, True), ("BadNumber", "letters")), (("rules", 1, 0, None), "BadPrime"),
    (("rules", 3, 10, None), ("BadNumber", "letters")), (("rules", 3, 2, None), "BadRow"),
    (("rules", 3, 2, [[1, 0, 0]]), "BadRow"), (("rules", 3, 2, [[1, 0, 0, True]]), "BadRow"),
    (("rules", 3, 2, [1, 0, 0, 1]), "BadRow"), (("weighed", 6, None), "BadPrime"), (("weighed", 3, None), "BadTable"),
    (("weighed", 3, []), "BadTable"), (("weighed", 3, [[0, 0], [3, 0]]), "BadTable"),
    (("weighed", 3, [[1, 2]]), "BadTable"),
)
# Deeds that are right, though not every live rule book can do them.
DEEDS = (
    ("shadow",), ("back",), ("put", [1]), ("put", (0, 7, -1, 2)), ("bar", [0] * 9), ("bar", [1, 0, 2, 3]),
    ("led", [[5]]), ("led", [[1, 1], [0, 2]]), ("led", ((0, 0), (0, 0))), ("put", [1] * 81), ("led", [[1] * 9] * 9),
    ("join", ("free", 5, 2)), ("meet", ("rules", 3, 2, [[1, 0, 0, 5]])), ("free", ("weighed", 5, [[0, 0], [7, -1]])),
    ("shut", ("shut", 2, 1)), ("ahead", ("exchange", 3, 3)), ("behind", ("minus", 97, 2)),
)
SIDES = ("free", "shut", "ahead", "behind")
NO_DEEDS = (None, True, 0, "shadow", [], (), ["shadow"], ("shadow", None), ("back", ()), ("undo",), ("Shadow",),
            ("put",), ("put", None), ("put", []), ("put", [1, 2]), ("put", [1, 0, 0, True]), ("put", [1] * 100),
            ("put", [1], [1]), ("put", "abcd"), ("bar", [[1]]), ("bar", 1), ("led", []), ("led", [[1, 2]]),
            ("led", [[1, 2], [3]]), ("led", [[1] * 10] * 10), ("led", [[1.0]]), ("led", None), ("led", [1]),
            ("join", None), ("join", "free"), ("join", ("free", 4, 2)), ("meet", ["free", 5, 2]), ("free", 5, 2),
            ("shut", ("free", 5)), ("ahead", ("rules", 3, 2, [[1]])), ("behind",), ("join",),
            ("join", ("free", 5, 2), 1), (("shadow",),), ([],), (None, 1), {"shadow": 1}, ("watch", [1]),
            ("rules", 3, 2, []))


def plain_rows(prime, rows):
    return tuple(tuple(number % prime for number in row) for row in rows)


def plain_start(start):
    """A start with its lists as tuples and its numbers from 0 to prime - 1."""
    if start[0] == "rules":
        return start[:3] + (plain_rows(start[1], start[3]),)
    if start[0] == "weighed":
        return start[:2] + (plain_rows(start[1], start[2]),)
    return start


def plain_deed(prime, deed):
    if deed[0] in ("put", "bar"):
        return (deed[0], tuple(number % prime for number in deed[1]))
    if deed[0] == "led":
        return (deed[0], plain_rows(prime, deed[1]))
    if len(deed) == 2:
        return (deed[0], plain_start(deed[1]))
    return deed


def chance_start(numbers, prime, letters):
    """A start with so many letters."""
    word = ("rules", "free", "shut", "exchange", "minus", "weighed")[numbers.below(6)]
    if word == "rules":
        return (word, prime, letters, numbers.rows(1 + numbers.below(3), letters * letters, 2 * prime, 2))
    if word == "weighed":
        return (word, prime, [[1 + numbers.below(prime - 1) + prime for _ in range(letters)] for _ in range(letters)])
    return (word, prime, letters)


def chance_deed(numbers, prime, letters):
    """A deed for a book of so many letters; about one of eight it cannot do."""
    if numbers.below(8) == 0:
        letters = 1 + numbers.below(3)
        prime = (prime, prime, 2, 3)[numbers.below(4)]
    kind = numbers.below(12)
    if kind < 2:
        return (("shadow",), ("back",))[kind]
    if kind < 5:
        return (("put", "bar", "put")[kind - 2], numbers.row(letters * letters, 3 * prime, 2))
    if kind < 7:
        table = chance_table(prime, letters, numbers.below(50))
        if numbers.below(6) == 0:
            table = [[0] * letters for _ in range(letters)]
        return ("led", table)
    if kind < 9:
        return (("join", "meet")[kind - 7], chance_start(numbers, prime, letters))
    return (("free", "shut", "ahead", "behind")[numbers.below(4)], chance_start(numbers, prime, 1 + numbers.below(2)))


def tried(function, *given):
    """What a call returns, or its error with what this tells."""
    try:
        return (function(*given),)
    except RuleError as error:
        return (error.__class__, vars(error))


def state(live):
    """All that a live rule book tells."""
    return {
        "book": (live.book.prime, live.book.letters, live.book.rules), "prime": live.prime, "start": live.start,
        "standing": live.standing, "deeds": live.deeds(), "watched": live.watched(), "values": live.values_told(),
        "rests": live.rests_told(), "told": live.told(), "marks": live.marks(),
        "marked": [live.marked(name).rules for name in live.marks()],
        "carried": [live.carried(name) for name in live.marks()],
    }


def afresh(live):
    """A new one that has done just the present deeds."""
    made = LiveBook(live.start)
    for deed in live.deeds():
        made.do(deed)
    return made


def lived(seed, start, many, most_letters=3):
    """A live rule book that has tried so many deeds."""
    numbers = Numbers(seed)
    live = LiveBook(start)
    for _ in range(many):
        deed = chance_deed(numbers, live.prime, live.book.letters)
        if live.book.letters < most_letters or deed[0] not in SIDES:
            tried(live.do, deed)
    return live
