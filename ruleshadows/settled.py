"""Tidy rule books: whether all overlaps of heads are settled."""

from ruleshadows.checks import check_from, is_word, words_many
from ruleshadows.errors import BadWord
from ruleshadows.orders import book_by, check_order, head_flags, head_rules, plain_spots, spots_by
from ruleshadows.reststock import RestStock
from ruleshadows.solving import dense_rows, kernel_rows, reduced, room_of, sparse
from ruleshadows.words import beside, spelled, spot_of


def is_tidy(book, order):
    """Whether there are as many plain words of length 3 as rests."""
    check_order(book, order)
    return len(plain_spots(book, order, 3)) == RestStock(book).many(3)


def overlaps(book, order):
    """The ascending list of the words of length 3 that have a head at both places."""
    check_order(book, order)
    letters = book.letters
    flags = head_flags(book, order)
    found = []
    for spot in range(letters * letters * letters):
        if flags[spot // letters] and flags[spot % (letters * letters)]:
            found.append(spelled(letters, 3, spot))
    return found


def _check_overlap(book, order, word):
    check_order(book, order)
    if not is_word(word, book.letters) or word not in overlaps(book, order):
        raise BadWord("an overlap is asked")


def _letter_row(letters, letter):
    return [int(at == letter) for at in range(letters)]


def overlap_row(book, order, word):
    """The head rule ahead beside the last letter, less the first letter beside the head rule behind."""
    _check_overlap(book, order, word)
    rules = {head: row for head, row in head_rules(book, order)}
    ahead = beside(book.prime, rules[word[:2]], _letter_row(book.letters, word[2]))
    behind = beside(book.prime, _letter_row(book.letters, word[0]), rules[word[1:]])
    return tuple([(one - other) % book.prime for one, other in zip(ahead, behind)])


def is_settled(book, order, word):
    """Whether this row is a sum of multiples of head rules with a letter whose heads the word is ahead of."""
    row = overlap_row(book, order, word)
    letters = book.letters
    spots = spots_by(order, 3)
    at = spots.index(spot_of(letters, word))
    behind = []
    for rule in [sparse(book.prime, told) for told in book_by(book, order).rules]:
        head = min(list(rule))
        for letter in range(letters):
            if head * letters + letter > at:
                behind.append({place * letters + letter: rule[place] for place in rule})
            if letter * letters * letters + head > at:
                behind.append({letter * letters * letters + place: rule[place] for place in rule})
    told_row = sparse(book.prime, [row[spot] for spot in spots])
    return not reduced(book.prime, room_of(book.prime, behind), told_row)


def unsettled(book, order, length):
    """The tidy list of what is nothing and has 0 at all words but plain ones."""
    check_order(book, order)
    check_from(length, 0, "length")
    size = words_many(book.letters, length)
    spots = plain_spots(book, order, length)
    rests = RestStock(book).word_rows(length)
    silent = kernel_rows(book.prime, [rests[spot] for spot in spots])
    return dense_rows(size, [{spots[at]: row[at] for at in row} for row in silent])
