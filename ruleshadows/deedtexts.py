"""Starts and deeds as lines."""

from ruleshadows.deedforms import ROW_DEEDS, START_DEEDS, plain_start
from ruleshadows.errors import BadDeed, BadText, RuleError
from ruleshadows.live import is_deed, started
from ruleshadows.texts import row_line, row_told, rows_line, rows_told

# The greatest prime: numbers of a deed's row or table are written if they are below it.
ABOVE_ALL = 97


def start_text(start):
    """The line of a start."""
    started(start)
    plain = plain_start(start)
    ahead = f"{plain[0]} {plain[1]} "
    if plain[0] == "weighed":
        return ahead + rows_line(plain[2])
    line = ahead + str(plain[2])
    if plain[0] == "rules" and plain[3]:
        return line + " " + rows_line(plain[3])
    return line


def start_of_text(text):
    """The start with this text."""
    if not isinstance(text, str):
        raise BadText(0)
    start = _start_told(text.split(" "))
    # What is written in another way, or with greater numbers, is not the text of the start that it tells.
    if start is None or not _is_text_of_start(start, text):
        raise BadText(0)
    return start


def _is_text_of_start(start, text):
    try:
        return start_text(start) == text
    except RuleError:
        return False


def _start_told(parts):
    """What these parts tell, if they tell a start; None if they surely do not."""
    numbers = row_told(parts[1:3])
    if numbers is None or len(numbers) < 2:
        return None
    if parts[0] == "weighed":
        rows = rows_told(parts[2:])
        return None if rows is None else ("weighed", numbers[0], rows)
    if parts[0] != "rules":
        return (parts[0], numbers[0], numbers[1]) if len(parts) == 3 else None
    rows = rows_told(parts[3:]) if len(parts) > 3 else ()
    return None if rows is None else ("rules", numbers[0], numbers[1], rows)


def deed_text(deed):
    """The line of a deed."""
    if not is_deed(deed) or not _is_writable(deed):
        raise BadDeed("a deed with numbers from 0 to 96 in its row or table is asked")
    word = deed[0]
    if word in ROW_DEEDS:
        return word + " " + row_line(deed[1])
    if word == "led":
        return word + " " + rows_line(deed[1])
    if word in START_DEEDS:
        return word + " " + start_text(deed[1])
    return word


def _is_writable(deed):
    """Whether all numbers in the row or table of a deed are among those that are written."""
    rows = []
    if deed[0] in ROW_DEEDS:
        rows = [deed[1]]
    if deed[0] == "led":
        rows = deed[1]
    return all([0 <= number < ABOVE_ALL for row in rows for number in row])


def deed_of_text(text):
    """The deed with this text."""
    if not isinstance(text, str):
        raise BadText(0)
    deed = _deed_told(text)
    if deed is None or not _is_text_of_deed(deed, text):
        raise BadText(0)
    return deed


def _is_text_of_deed(deed, text):
    try:
        return deed_text(deed) == text
    except RuleError:
        return False


def _deed_told(text):
    """What the line tells, if it tells a deed; None if it surely does not."""
    word, _, behind = text.partition(" ")
    if word in ROW_DEEDS:
        row = row_told(behind.split(" "))
        return None if row is None else (word, row)
    if word == "led":
        rows = rows_told(behind.split(" "))
        return None if rows is None else (word, rows)
    if word in START_DEEDS:
        return (word, start_of_text(behind))
    return (word,)
