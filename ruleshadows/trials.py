"""All orders of the letters, tried one after the other."""

from ruleshadows.books import check_book
from ruleshadows.checks import MOST_WORDS
from ruleshadows.errors import TooMany
from ruleshadows.orders import plain_spots
from ruleshadows.reststock import RestStock

MOST_TRIED = 6


def check_tried(letters):
    """Raises TooMany(1000) if there are more orders of so many letters than that."""
    if letters > MOST_TRIED:
        raise TooMany(MOST_WORDS)


def all_orders(letters):
    """The ascending list of all orders, as tuples."""
    orders = [()]
    for _ in range(letters):
        orders = [order + (letter,) for order in orders for letter in range(letters) if letter not in order]
    return orders


def tidy_orders(book):
    """The ascending list of all orders by which the book is tidy."""
    check_book(book)
    check_tried(book.letters)
    many = RestStock(book).many(3)
    return [order for order in all_orders(book.letters) if _is_tidy_by(book, order, many)]


def first_tidy(book):
    """The first order by which the book is tidy; None if there is none."""
    check_book(book)
    check_tried(book.letters)
    many = RestStock(book).many(3)
    for order in all_orders(book.letters):
        if _is_tidy_by(book, order, many):
            return order
    return None


def _is_tidy_by(book, order, many):
    """is_tidy, with the count of length 3, the same for all orders, at hand."""
    return len(plain_spots(book, order, 3)) == many
