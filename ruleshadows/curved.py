"""Lower parts told by the shadow: its curve, its slopes, and the steps that they make."""

from ruleshadows.books import check_book
from ruleshadows.checks import check_between, check_from, check_row, is_rows, words_many
from ruleshadows.errors import BadRow
from ruleshadows.lowered import Lowered, check_lowered
from ruleshadows.reststock import RestStock
from ruleshadows.shadows import shadow
from ruleshadows.solving import dense, mixed, put, put_times, sparse


def shadow_curve(lowered):
    """The rest of length 2 in the shadow that tells its number of each rule."""
    check_lowered(lowered)
    return _full(RestStock(shadow(lowered.book)), 2, _curve(lowered))


def shadow_slope(lowered, letter):
    """The rest of length 2 in the shadow that tells of each rule the number of this letter in its sum."""
    check_lowered(lowered)
    check_between(letter, 0, lowered.book.letters - 1, "letter")
    return _full(RestStock(shadow(lowered.book)), 2, _slopes(lowered)[letter])


def _curve(lowered):
    """A row that tells its number of each rule: one that has all at the first places of the rules."""
    return _telling(lowered.book, lowered.numbers)


def _slopes(lowered):
    """For each letter a row that tells its number in each sum."""
    return [
        _telling(lowered.book, [total[letter] for total in lowered.sums])
        for letter in range(lowered.book.letters)
    ]


def _telling(book, numbers):
    # No rule has anything at the first place of another one.
    return {rule.index(1): number for rule, number in zip(book.rules, numbers) if number}


def _full(stock, length, row):
    """The rest of a row, by words, as a tuple."""
    left = mixed(stock.prime, row, stock.word_rows(length))
    return dense(words_many(stock.letters, length), stock.spread(length, left))


def shadow_step(lowered, length, row):
    """The rest in the shadow of the row with slopes in the place of letters, one by one, with signs by turns."""
    check_lowered(lowered)
    book = lowered.book
    check_from(length, 0, "length")
    words_many(book.letters, length + 1)
    check_row(row, words_many(book.letters, length))
    stock = RestStock(shadow(book))
    return _full(stock, length + 1, _stepped(book, _slopes(lowered), length, sparse(book.prime, row)))


def _stepped(book, slopes, length, row):
    """The step of a row, by words, before its rest is taken."""
    letters = book.letters
    found = {}
    behind = 1
    for index in range(length - 1, -1, -1):
        sign = -1 if index & 1 else 1
        for spot, number in row.items():
            ahead, end = spot // (behind * letters), spot % behind
            for pair, times in slopes[spot // behind % letters].items():
                place = (ahead * letters * letters + pair) * behind + end
                put(book.prime, found, place, sign * number * times)
        behind *= letters
    return found


def has_step(lowered):
    """Whether steps lead rules of the shadow to 0, two of them are beside the curve less it beside, and it has none."""
    check_lowered(lowered)
    book = lowered.book
    dark = shadow(book)
    slopes, curve = _slopes(lowered), _curve(lowered)
    words = RestStock(dark).word_rows(3)
    silent = [_stepped(book, slopes, 2, sparse(book.prime, rule)) for rule in dark.rules]
    silent.append(_stepped(book, slopes, 2, curve))
    pairs = book.letters * book.letters
    for letter in range(book.letters):
        twice = _stepped(book, slopes, 2, slopes[letter])
        put_times(book.prime, twice, -1, {letter * pairs + at: curve[at] for at in curve})
        put_times(book.prime, twice, 1, {at * book.letters + letter: curve[at] for at in curve})
        silent.append(twice)
    return not any([mixed(book.prime, row, words) for row in silent])


def lowered_by(book, slopes, curve):
    """The book with the lower parts that these rows of length 2 tell of its rules."""
    check_book(book)
    size = book.letters * book.letters
    if not is_rows(slopes, size) or len(slopes) != book.letters:
        raise BadRow("a row of length 2 for each letter is asked")
    check_row(curve, size)
    sums = [[_told(rule, slope) for slope in slopes] for rule in book.rules]
    return Lowered(book, sums, [_told(rule, curve) for rule in book.rules])


def _told(rule, row):
    return sum([number * other for number, other in zip(rule, row)])
