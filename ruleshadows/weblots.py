"""Counts of webs by their lots, and the orders by which webs are tidy."""

from ruleshadows.errors import BadOrder
from ruleshadows.orders import is_order
from ruleshadows.polys import lowest, product_of
from ruleshadows.trials import all_orders, check_tried
from ruleshadows.webs import check_lines, check_web, lined_pairs, web_lots


def web_fraction(letters, lines, nothings):
    """The fraction that unrolls to the counts of web_book, with as few numbers as can be."""
    check_web(letters, lines, nothings)
    # Put over (1 + t) once for each letter of nothings; a letter of a lot that is one of them takes one away.
    sums = _lot_sums(web_lots(letters, lines), nothings, [1, 1], -1)
    return lowest(_power([1, 1], len(nothings)), sums)


def shut_fraction(letters, lines, nothings):
    """The fraction that unrolls to the counts of shut_web, with as few numbers as can be."""
    check_web(letters, lines, nothings)
    others = [letter for letter in range(letters) if letter not in nothings]
    sums = _lot_sums(web_lots(letters, lines), others, [1, -1], 1)
    return lowest(sums, _power([1, -1], len(others)))


def _lot_sums(lots, special, below, sign):
    """The sum over the lots of sign * t for each letter, by below for the special ones, times below for all these."""
    total = [0] * (len(special) + max([len(lot) for lot in lots]) + 1)
    for lot in lots:
        left = len(special) - len([letter for letter in lot if letter in special])
        times = -1 if sign < 0 and len(lot) & 1 else 1
        for k, number in enumerate(_power(below, left)):
            total[len(lot) + k] += times * number
    return total


def _power(numbers, many):
    found = [1]
    for _ in range(many):
        found = product_of(found, numbers)
    return found


def is_straight(letters, lines, order):
    """Whether letters with lines to one between them in the order always have a line themselves."""
    check_lines(letters, lines)
    if not is_order(letters, order):
        raise BadOrder("a list of all letters is asked")
    return _is_straight(lined_pairs(lines), order)


def _is_straight(pairs, order):
    for here, b in enumerate(order):
        ahead = [a for a in order[:here] if _has_line(pairs, a, b)]
        behind = [c for c in order[here + 1:] if _has_line(pairs, b, c)]
        if not all([_has_line(pairs, a, c) for a in ahead for c in behind]):
            return False
    return True


def _has_line(pairs, a, b):
    return (min(a, b), max(a, b)) in pairs


def first_straight(letters, lines):
    """The first order that is straight; None if there is none."""
    check_lines(letters, lines)
    check_tried(letters)
    pairs = lined_pairs(lines)
    for order in all_orders(letters):
        if _is_straight(pairs, order):
            return order
    return None
