"""Journals: the start of a live rule book and the deeds done, line by line."""

from ruleshadows.deedforms import plain_deed
from ruleshadows.deedtexts import deed_of_text, deed_text, start_of_text, start_text
from ruleshadows.errors import BadText, RuleError
from ruleshadows.live import LiveBook
from ruleshadows.mirrors import check_live

OPENING = "live "


def journal_text(live):
    """The text of a live rule book: its start, and a line for each of its deeds."""
    check_live(live)
    return "\n".join([OPENING + start_text(live.start)] + [deed_text(deed) for deed in live.deeds()])


def led_live(text):
    """The live rule book that a journal tells."""
    if not isinstance(text, str):
        raise BadText(0)
    lines = text.split("\n")
    if not lines[0].startswith(OPENING):
        raise BadText(0)
    live = LiveBook(start_of_text(lines[0][len(OPENING):]))
    for at in range(1, len(lines)):
        if not _is_done(live, lines[at]):
            raise BadText(at)
    return live


def _is_done(live, line):
    """Whether the line tells a deed that the live rule book can do, as its journal would; then it does it."""
    try:
        deed = deed_of_text(line)
        if plain_deed(live.prime, deed) != deed:
            return False
        live.do(deed)
    except RuleError:
        return False
    return True
