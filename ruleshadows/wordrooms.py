"""Rows for all words, each within the rooms of all places at which its word has a head."""

from ruleshadows.checks import is_rows, length_many
from ruleshadows.commonstock import CommonStock
from ruleshadows.orders import book_by, check_order, head_flags, row_back, spots_by
from ruleshadows.solving import dense, reduced, room_of, sparse
from ruleshadows.sweeps import check_tidy
from ruleshadows.words import spelled


def is_word_basis(book, order, length, some):
    """Whether any value is a list of rows, one for each word, as word_basis has them."""
    check_order(book, order)
    size = length_many(book.letters, length)
    if not is_rows(some, size) or len(some) != size:
        return False
    spots = spots_by(order, length)
    flags = head_flags(book, order)
    rules = room_of(book.prime, [sparse(book.prime, rule) for rule in book.rules])
    for spot, told in enumerate(some):
        row = sparse(book.prime, told)
        if row.get(spot, 0) != 1 or [at for at in spots if at in row][0] != spot:
            return False
        word = spelled(book.letters, length, spot)
        for place in range(length - 1):
            if flags[word[place] * book.letters + word[place + 1]]:
                if not _is_at_place(book, rules, row, length, place):
                    return False
    return True


def _is_at_place(book, rules, row, length, place):
    """Whether what the row has at this place, with the same letters around it, is always a rule."""
    pairs = book.letters * book.letters
    behind = 1
    for _ in range(length - 2 - place if book.letters > 1 else 0):
        behind *= book.letters
    parts = {}
    for spot, number in row.items():
        around = (spot // (pairs * behind), spot % behind)
        parts.setdefault(around, {})[spot // behind % pairs] = number
    return not any([reduced(book.prime, rules, part) for part in list(parts.values())])


def word_basis(book, order, length):
    """For each word a row whose head it is, and which is within the rooms of all places at which it has a head."""
    check_tidy(book, order)
    size = length_many(book.letters, length)
    # The only word of one letter is its own row, however long it is.
    if book.letters == 1:
        return [(1,)]
    spots = spots_by(order, length)
    named = book_by(book, order)
    flags = head_flags(named, list(range(book.letters)))
    commons = CommonStock(named)
    rooms = [_by_heads(commons.full_rows(part)) for part in range(length + 1)]
    found = [()] * size
    for at in range(size):
        row = {0: 1}
        for part, head in _blocks(book.letters, spelled(book.letters, length, at), flags):
            row = _beside(book, row, part, rooms[part][head])
        found[spots[at]] = row_back(spots, dense(size, row))
    return found


def _by_heads(rows):
    return {min(list(row)): row for row in rows}


def _blocks(letters, word, flags):
    """The word cut at all places at which it has no head: pairs of the length and the spot of a part."""
    blocks = []
    for index, letter in enumerate(word):
        if index and flags[word[index - 1] * letters + letter]:
            part, spot = blocks.pop()
            blocks.append((part + 1, spot * letters + letter))
        else:
            blocks.append((1, letter))
    return blocks


def _beside(book, row, part, other):
    """The row followed by another one of so many letters."""
    size = 1
    for _ in range(part):
        size *= book.letters
    return {
        ahead * size + behind: row[ahead] * other[behind] % book.prime
        for ahead in row
        for behind in other
    }
