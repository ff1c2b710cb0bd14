"""Rule books with a letter more, which stands in the place of what lower parts have too few letters for."""

from ruleshadows.books import Rules
from ruleshadows.checks import check_letters
from ruleshadows.lowered import check_lowered
from ruleshadows.pairs import rules_among
from ruleshadows.solving import dense


def raised(lowered):
    """One letter t more, behind the others, that is exchanged with each: a lower part is followed by t, or is tt."""
    check_lowered(lowered)
    letters, more = lowered.book.letters, lowered.book.letters + 1
    check_letters(more)
    rows = []
    for rule, total, number in zip(rules_among(lowered.book, more, 0), lowered.sums, lowered.numbers):
        row = list(rule)
        for a, part in enumerate(total):
            row[a * more + letters] -= part
        row[letters * more + letters] -= number
        rows.append(row)
    for a in range(letters):
        rows.append(dense(more * more, {a * more + letters: 1, letters * more + a: -1}))
    return Rules(lowered.book.prime, more, rows)
