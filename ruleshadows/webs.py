"""Webs: rule books told by lines between letters, and by letters that are nothing beside themselves."""

from ruleshadows.books import Rules
from ruleshadows.checks import check_letters, check_prime, is_list, is_number, is_row
from ruleshadows.errors import BadWeb
from ruleshadows.solving import dense


def is_lines(letters, lines):
    """Whether any value is a list of lines (a, b, weight), a below b, no two with the same letters."""
    if not is_list(lines) or not all([is_row(line, 3) for line in lines]):
        return False
    pairs = [(line[0], line[1]) for line in lines]
    return all([0 <= a < b < letters for a, b in pairs]) and len(set(pairs)) == len(pairs)


def check_lines(letters, lines):
    """Raises BadNumber("letters"), BadWeb."""
    check_letters(letters)
    if not is_lines(letters, lines):
        raise BadWeb("a list of lines is asked")


def check_web(letters, lines, nothings):
    """Raises BadNumber("letters"), BadWeb; the weights are not looked at."""
    check_lines(letters, lines)
    if not is_list(nothings) or not all([is_number(letter) for letter in nothings]):
        raise BadWeb("a list of letters is asked")
    if not all([0 <= letter < letters for letter in nothings]) or len(set(nothings)) < len(nothings):
        raise BadWeb("a list of letters, none twice, is asked")


def web_book(prime, letters, lines, nothings):
    """The rule book with ba less weight times ab for each line, and aa for each letter of nothings."""
    return Rules(prime, letters, _web_rows(prime, letters, lines, nothings))


def shut_web(prime, letters, lines, nothings):
    """The same rules, and ab and ba for all letters a below b without a line."""
    rows = _web_rows(prime, letters, lines, nothings)
    pairs = lined_pairs(lines)
    for b in range(letters):
        for a in range(b):
            if (a, b) not in pairs:
                rows.append(dense(letters * letters, {a * letters + b: 1}))
                rows.append(dense(letters * letters, {b * letters + a: 1}))
    return Rules(prime, letters, rows)


def _web_rows(prime, letters, lines, nothings):
    check_prime(prime)
    check_web(letters, lines, nothings)
    if any([line[2] % prime == 0 for line in lines]):
        raise BadWeb("the prime divides a weight")
    size = letters * letters
    rows = [dense(size, {b * letters + a: 1, a * letters + b: -weight}) for a, b, weight in lines]
    return rows + [dense(size, {a * letters + a: 1}) for a in nothings]


def lined_pairs(lines):
    """A dict of the pairs of letters a below b with a line."""
    return {(line[0], line[1]): True for line in lines}


def web_lots(letters, lines):
    """The ascending list of all ascending tuples of letters any two of which have a line."""
    check_lines(letters, lines)
    pairs = lined_pairs(lines)
    lots = [()]
    for b in range(letters):
        lots = lots + [lot + (b,) for lot in lots if all([(a, b) in pairs for a in lot])]
    return sorted(lots)
