"""Tables that send the letters of one rule book to those of another one, and those that send rules to rules."""

from ruleshadows.books import check_book
from ruleshadows.checks import MOST_WORDS, check_from, check_prime, check_row, is_list, is_rows, words_many
from ruleshadows.errors import BadMap, BadTable, TooMany
from ruleshadows.pairs import check_primes
from ruleshadows.rests import rest
from ruleshadows.reststock import RestStock, followed
from ruleshadows.solving import dense_rows, kernel_rows, put_times, reduced, room_of, sparse, tidy_rows
from ruleshadows.tables import exchanged, joined
from ruleshadows.twists import keeps
from ruleshadows.words import first_led_behind


def _is_table_between(one, other, value):
    return is_rows(value, other.letters) and len(value) == one.letters


def _sent(prime, length, row, table):
    """The row of this length with each letter of each word sent, all words written out."""
    numbers = list(row)
    for _ in range(length):
        numbers = first_led_behind(prime, numbers, table)
    return numbers


def _sends_rules(one, other, table):
    """Whether a table from one to other sends all rules to rules."""
    rules = room_of(other.prime, [sparse(other.prime, rule) for rule in other.rules])
    sent = [_sent(one.prime, 2, rule, table) for rule in one.rules]
    return not any([reduced(other.prime, rules, sparse(other.prime, row)) for row in sent])


def is_map(one, other, thing):
    """Whether any value is a table from one to other that sends rules to rules."""
    check_primes(one, other)
    return _is_table_between(one, other, thing) and _sends_rules(one, other, thing)


def _check_map(one, other, table):
    """Raises the errors of books, then BadTable, BadMap."""
    check_primes(one, other)
    if not _is_table_between(one, other, table):
        raise BadTable("a table from one to other is asked")
    if not _sends_rules(one, other, table):
        raise BadMap("the table sends a rule to what is no rule")


def _check_lengths(one, other, length):
    """The sizes of rows of this length in both; BadNumber("length"), TooMany(1000)."""
    check_from(length, 0, "length")
    return (words_many(one.letters, length), words_many(other.letters, length))


def row_sent(one, other, table, length, row):
    """The rest in other of the row with each letter of each word sent."""
    _check_map(one, other, table)
    size, _ = _check_lengths(one, other, length)
    check_row(row, size)
    return rest(other, length, _sent(one.prime, length, row, table))


def _sent_rests(stock, others, table, length):
    """The rests in the other book of what the rest words of this length are sent to."""
    rows = [{0: 1}]
    for longer in range(1, length + 1):
        steps = others.right_rows(longer - 1)
        ends = [stock.peeled(longer, k, 1) for k in range(stock.many(longer))]
        rows = [_followed_sent(others, rows[start], table[letter], steps) for letter, start in ends]
    return rows


def _followed_sent(others, row, letter_row, steps):
    """A row followed by the sum of letters that one letter is sent to."""
    total = {}
    for c, number in enumerate(letter_row):
        put_times(others.prime, total, number, followed(others.letters, others.prime, row, c, steps))
    return total


def lost_by(one, other, table, length):
    """The tidy list of the rests of one that are sent to 0."""
    _check_map(one, other, table)
    size, _ = _check_lengths(one, other, length)
    stock = RestStock(one)
    lost = kernel_rows(one.prime, _sent_rests(stock, RestStock(other), table, length))
    return dense_rows(size, [stock.spread(length, row) for row in lost])


def reached_by(one, other, table, length):
    """The tidy list of the rests of other to which rows are sent."""
    _check_map(one, other, table)
    _, size = _check_lengths(one, other, length)
    others = RestStock(other)
    reached = tidy_rows(room_of(one.prime, _sent_rests(RestStock(one), others, table, length)))
    return dense_rows(size, [others.spread(length, row) for row in reached])


def _is_any_table(value):
    """Whether any value is a list of one or more rows of one length from 1 on."""
    if not is_list(value) or not value or not is_list(value[0]) or not value[0]:
        return False
    return is_rows(value, len(value[0]))


def sent_behind(prime, first, second):
    """The table that sends by first, then by second."""
    check_prime(prime)
    if not _is_any_table(first) or not _is_any_table(second) or len(first[0]) != len(second):
        raise BadTable("two tables, the one of which goes on where the other one ends, are asked")
    return joined(prime, first, second)


def sent_back(prime, table):
    """The table with rows and columns exchanged."""
    check_prime(prime)
    if not _is_any_table(table):
        raise BadTable("a list of rows of one length is asked")
    return exchanged(prime, table)


def _all_tables(prime, rows, columns):
    """The ascending list of all tables of so many rows; TooMany(1000) if there are more."""
    many = 1
    for _ in range(rows * columns):
        many *= prime
        if many > MOST_WORDS:
            raise TooMany(MOST_WORDS)
    lines = [()]
    for _ in range(columns):
        lines = [line + (number,) for line in lines for number in range(prime)]
    tables = [()]
    for _ in range(rows):
        tables = [table + (line,) for table in tables for line in lines]
    return tables


def letter_maps(one, other):
    """The ascending list of all maps from one to other."""
    check_primes(one, other)
    return [table for table in _all_tables(one.prime, one.letters, other.letters) if _sends_rules(one, other, table)]


def keepers(book):
    """The ascending list of all tables that keep the book."""
    check_book(book)
    return [table for table in _all_tables(book.prime, book.letters, book.letters) if keeps(book, table)]


def bent(one, other, table):
    """The rows for the letters (v, w) of a product side by side, w ascending, in row v."""
    check_primes(one, other)
    n, m = one.letters, other.letters
    if not _is_any_table(table) or len(table) != n * m:
        raise BadTable("a row for each pair of letters is asked")
    return tuple([
        tuple([number % one.prime for row in table[v * m:(v + 1) * m] for number in row])
        for v in range(n)
    ])
