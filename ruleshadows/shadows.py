"""Shadows of rule books, and their rules together and in common."""

from ruleshadows.books import Rules, check_alike, check_book
from ruleshadows.rooms import is_within, room_common, room_dark, room_sum


def shadow(book):
    """The rule book whose rules are the rows that tell 0 of all rules."""
    check_book(book)
    return Rules(book.prime, book.letters, room_dark(book.prime, book.letters * book.letters, book.rules))


def is_under(one, other):
    """Whether all rules of other are rules of one."""
    check_alike(one, other)
    return is_within(one.prime, one.letters * one.letters, one.rules, other.rules)


def joined_rules(one, other):
    """The rule book whose rules are those of both, and all sums of them."""
    check_alike(one, other)
    rows = room_sum(one.prime, one.letters * one.letters, one.rules, other.rules)
    return Rules(one.prime, one.letters, rows)


def common_rules(one, other):
    """The rule book whose rules are those that both have."""
    check_alike(one, other)
    rows = room_common(one.prime, one.letters * one.letters, one.rules, other.rules)
    return Rules(one.prime, one.letters, rows)
