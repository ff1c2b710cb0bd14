"""Rule books with lower parts: rules that are no longer nothing, but a sum of letters and a number."""

from ruleshadows.books import check_book
from ruleshadows.checks import check_row, is_rows
from ruleshadows.errors import BadLower, BadRow


class Lowered:
    """A rule book with lower parts: the rule with an index is the sum of letters and the number with this index."""

    def __init__(self, book, sums, numbers):
        check_sums(book, sums)
        check_row(numbers, len(book.rules))
        self.book = book
        self.sums = tuple([tuple([number % book.prime for number in row]) for row in sums])
        self.numbers = tuple([number % book.prime for number in numbers])

    def __eq__(self, other):
        return (
            isinstance(other, Lowered)
            and self.book == other.book
            and self.sums == other.sums
            and self.numbers == other.numbers
        )


def check_sums(book, sums):
    """Raises BadBook(None), BadRow unless sums is a list with a sum of letters for each rule."""
    check_book(book)
    if not is_rows(sums, book.letters) or len(sums) != len(book.rules):
        raise BadRow("a list with a sum of letters for each rule is asked")


def check_lowered(lowered):
    """Raises BadLower for what is no book with lower parts."""
    if not isinstance(lowered, Lowered):
        raise BadLower("a book with lower parts is asked")


def unlowered(book):
    """The book with all sums and numbers 0."""
    check_book(book)
    many = len(book.rules)
    return Lowered(book, [[0] * book.letters for _ in range(many)], [0] * many)
