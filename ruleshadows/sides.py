"""Rule books side by side: the letters of both, and rules for one of each."""

from ruleshadows.books import Rules, check_book
from ruleshadows.checks import check_between, is_number
from ruleshadows.errors import BadNumber
from ruleshadows.pairs import check_joined, rules_alone, rules_among
from ruleshadows.solving import dense, inverse


def _sides(one, other, mixed):
    """Both books side by side, with the rules that mixed tells for a letter of each, by their words' places."""
    letters = one.letters + other.letters
    rows = rules_among(one, letters, 0) + rules_among(other, letters, one.letters)
    for v in range(one.letters):
        for w in range(one.letters, letters):
            spots = (v * letters + w, w * letters + v)
            for row in mixed:
                rows.append(dense(letters * letters, {spots[0]: row[0], spots[1]: row[1]}))
    return Rules(one.prime, letters, rows)


def free_sides(one, other):
    """Both side by side, with no more rules."""
    check_joined(one, other)
    return _sides(one, other, ())


def shut_sides(one, other):
    """Both side by side, vw and wv being rules for letters v of one, w of other."""
    check_joined(one, other)
    return _sides(one, other, ((1, 0), (0, 1)))


def ahead_sides(one, other):
    """Both side by side, wv being a rule for letters v of one, w of other."""
    check_joined(one, other)
    return _sides(one, other, ((0, 1),))


def behind_sides(one, other):
    """Both side by side, vw being a rule for letters v of one, w of other."""
    check_joined(one, other)
    return _sides(one, other, ((1, 0),))


def weighed_sides(one, other, weight):
    """Both side by side, wv less weight times vw being a rule for letters v of one, w of other."""
    check_joined(one, other)
    if not is_number(weight) or weight % one.prime == 0:
        raise BadNumber("weight")
    return _sides(one, other, ((-weight, 1),))


def sides_told(book, many):
    """The way and the two books, the first one with so many letters, of which this one is made; None."""
    check_book(book)
    check_between(many, 1, book.letters - 1, "many")
    one = Rules(book.prime, many, rules_alone(book, list(range(many))))
    other = Rules(book.prime, book.letters - many, rules_alone(book, list(range(many, book.letters))))
    tries = [("free", free_sides(one, other)), ("shut", shut_sides(one, other)),
             ("ahead", ahead_sides(one, other)), ("behind", behind_sides(one, other))]
    weight = _weight_told(book, many)
    if weight:
        tries.append((weight, weighed_sides(one, other, weight)))
    for way, made in tries:
        if made == book:
            return (way, one, other)
    return None


def _weight_told(book, many):
    """The weight by which letters 0 and many are exchanged, if they are; 0 if no rule begins with both words."""
    for rule in book.rules:
        # A rule as in weighed_sides, divided by less its weight.
        if rule.index(1) == many and rule[many * book.letters]:
            return inverse(book.prime, book.prime - rule[many * book.letters])
    return 0
