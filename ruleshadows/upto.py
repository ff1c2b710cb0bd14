"""What lowered rules make nothing up to a length, and long rests."""

from ruleshadows.checks import check_between, check_from, check_row
from ruleshadows.longs import long_many, long_starts
from ruleshadows.longstock import LongStock
from ruleshadows.lowered import check_lowered
from ruleshadows.solving import dense, dense_rows, mixed, put, sparse


def check_up_to(lowered, length, part):
    """The size of long rows of this length; BadLower, BadNumber(part), TooMany(1000)."""
    check_lowered(lowered)
    check_from(length, 0, part)
    return long_many(lowered.book.letters, length)


def _stock_of(lowered, length):
    stock = LongStock(lowered)
    stock.reach(length)
    return stock


def _nothing_rows(stock):
    """The tidy list of long_nothing, by the first places: each word that is not kept less its rest."""
    kept = {place: True for place in stock.kept}
    rows = {}
    for place, left in enumerate(stock.rests):
        if place not in kept:
            row = {at: stock.prime - number for at, number in stock.spread(left).items()}
            row[place] = 1
            rows[place] = row
    return rows


def long_nothing(lowered, length):
    """The tidy list of all lowered rules with words around them, of at most this length together."""
    size = check_up_to(lowered, length, "length")
    return dense_rows(size, list(_nothing_rows(_stock_of(lowered, length)).values()))


def kept_words(lowered, length):
    """The words at whose places no row of long_nothing begins, in the order of their places."""
    check_up_to(lowered, length, "length")
    return _stock_of(lowered, length).words_kept()


def count_up_to(lowered, length):
    """How many kept words there are."""
    check_up_to(lowered, length, "length")
    return len(_stock_of(lowered, length).kept)


def long_rest(lowered, length, long):
    """The long row that differs from this one by one of long_nothing and has 0 at all words but kept ones."""
    size = check_up_to(lowered, length, "length")
    check_row(long, size)
    return _long_rest(lowered, length, size, sparse(lowered.book.prime, long))


def _long_rest(lowered, length, size, row):
    stock = _stock_of(lowered, length)
    return dense(size, stock.spread(mixed(stock.prime, row, stock.rests)))


def long_product(lowered, first, one, second, other):
    """The long rest of all words of one followed by those of other."""
    check_lowered(lowered)
    check_from(first, 0, "first")
    check_from(second, 0, "second")
    letters = lowered.book.letters
    size = long_many(letters, first + second)
    check_row(one, long_many(letters, first))
    check_row(other, long_many(letters, second))
    return _long_rest(lowered, first + second, size, _beside(lowered.book, first, one, second, other))


def _beside(book, first, one, second, other):
    """All words of one followed by those of other, without zeros."""
    starts = long_starts(book.letters, first + second)
    behind = _by_lengths(book, second, other)
    row = {}
    for size, spot, number in _by_lengths(book, first, one):
        for more, end, times in behind:
            many = 1
            for _ in range(more if book.letters > 1 else 0):
                many *= book.letters
            put(book.prime, row, starts[size + more] + spot * many + end, number * times)
    return row


def _by_lengths(book, length, long):
    """Triples of the length of a word, its spot and its number, for all that are not 0."""
    starts = long_starts(book.letters, length)
    ends = [len(long)] + starts[:-1]
    return [
        (size, place - starts[size], long[place] % book.prime)
        for size in range(length + 1)
        for place in range(starts[size], ends[size])
        if long[place] % book.prime
    ]


def tops(lowered, length, top):
    """What sums of long_nothing that are 0 at all words longer than top have at those of this length."""
    check_lowered(lowered)
    check_from(length, 0, "length")
    check_between(top, 0, length, "top")
    size = long_many(lowered.book.letters, length)
    starts = long_starts(lowered.book.letters, length)
    start, end = starts[top], ([size] + starts)[top]
    rows = _nothing_rows(_stock_of(lowered, length))
    return [
        dense(end - start, {at - start: row[at] for at in row if at < end})
        for place, row in rows.items()
        if start <= place < end
    ]
