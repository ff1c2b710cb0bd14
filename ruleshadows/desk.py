"""A desk: a live rule book that is spoken to by lines."""

from ruleshadows.deedtexts import deed_of_text
from ruleshadows.errors import BadText, NoMark, NoWatch, RuleError
from ruleshadows.journals import journal_text
from ruleshadows.live import LiveBook, is_name
from ruleshadows.texts import book_text, number_told, row_line, row_told, rows_line

DONE = "done"
REFUSED = "refused"
UNKNOWN = "?"
MOST_LENGTH = 9
# How many names belong to each of these words.
NAMES_ASKED = {"drop": 1, "value": 2, "rest": 1, "mark": 1, "since": 1}


class Desk:
    """A live rule book, and the answers to lines."""

    def __init__(self, start):
        self.live = LiveBook(start)

    def say(self, line):
        """The answer to a line; any value."""
        if not isinstance(line, str):
            return UNKNOWN
        parts = line.split(" ")
        word, behind = parts[0], parts[1:]
        if word in ("sum", "tell"):
            return self._watch(word, behind)
        if word in NAMES_ASKED:
            if len(behind) != NAMES_ASKED[word] or not all([is_name(name) for name in behind]):
                return UNKNOWN
            return self._named(word, behind)
        if line in ("undo", "redo"):
            return self._back_or_again(line)
        if line in ("letters", "rules"):
            return str(self.live.told()[line])
        if line == "counts":
            return row_line(self.live.told()["counts"])
        if line == "book":
            return book_text(self.live.book)
        if line == "journal":
            return journal_text(self.live)
        return self._deed(line)

    def _deed(self, line):
        try:
            deed = deed_of_text(line)
        except BadText:
            return UNKNOWN
        try:
            self.live.do(deed)
        except RuleError:
            return REFUSED
        return DONE

    def _back_or_again(self, word):
        try:
            if word == "undo":
                self.live.undo()
            else:
                self.live.redo()
        except RuleError:
            return REFUSED
        return DONE

    def _watch(self, kind, parts):
        if len(parts) < 3 or not is_name(parts[0]):
            return UNKNOWN
        length, row = number_told(parts[1]), row_told(parts[2:])
        if length is None or length > MOST_LENGTH or row is None or max(row) >= self.live.prime:
            return UNKNOWN
        try:
            if kind == "sum":
                self.live.watch_sum(parts[0], length, row)
            else:
                self.live.watch_tell(parts[0], length, row)
        except RuleError:
            return REFUSED
        return DONE

    def _named(self, word, names):
        name = names[0]
        if word == "drop":
            return self._drop(name)
        if word == "mark":
            self.live.mark(name)
            return DONE
        if word == "since":
            return self._since(name)
        if word == "rest":
            rests = self.live.rests_told()
            return row_line(rests[name]) if name in rests else REFUSED
        values = self.live.values_told()
        pair = (min(names), max(names))
        return str(values[pair]) if pair in values else REFUSED

    def _drop(self, name):
        try:
            self.live.unwatch(name)
        except NoWatch:
            return REFUSED
        return DONE

    def _since(self, name):
        try:
            carried = self.live.carried(name)
        except NoMark:
            return REFUSED
        if carried is None:
            return "no"
        kind, turned, table = carried
        words = [kind, "turned"] if turned else [kind]
        return " ".join(words + [rows_line(table)])
