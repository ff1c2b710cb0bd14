"""What several functions ask of what is handed in."""

from ruleshadows.errors import BadNumber, BadPrime, BadRow, BadTable, TooMany

PRIMES = (2, 3, 5, 7, 11, 13, 17, 19, 23, 29, 31, 37, 41, 43, 47, 53, 59, 61, 67, 71, 73, 79, 83, 89, 97)
MOST_LETTERS = 9
MOST_WORDS = 1000


def is_number(value):
    """Whether any value is a number: True and False are none."""
    return isinstance(value, int) and not isinstance(value, bool)


def is_list(value):
    """Whether any value may stand where a list is spoken of."""
    return isinstance(value, (list, tuple))


def is_row(value, size):
    """Whether any value is a list of as many numbers as size says."""
    return is_list(value) and len(value) == size and all([is_number(number) for number in value])


def is_rows(value, size):
    """Whether any value is a list of rows of this size."""
    return is_list(value) and all([is_row(row, size) for row in value])


def is_table(value, letters):
    """Whether any value is a letter table for so many letters."""
    return is_rows(value, letters) and len(value) == letters


def is_any_table(value):
    """Whether any value is a letter table for 1 to 9 letters."""
    return is_list(value) and 1 <= len(value) <= MOST_LETTERS and is_table(value, len(value))


def is_word(value, letters):
    """Whether any value is a word of these letters."""
    if not isinstance(value, tuple):
        return False
    return all([is_number(letter) and 0 <= letter < letters for letter in value])


def check_prime(prime):
    """Raises BadPrime."""
    if not is_number(prime) or prime not in PRIMES:
        raise BadPrime("a prime from 2 to 97 is asked")


def check_from(number, least, part):
    """Raises BadNumber(part) unless this is a number from least on."""
    if not is_number(number) or number < least:
        raise BadNumber(part)


def check_between(number, least, most, part):
    """Raises BadNumber(part) unless this is a number from least to most."""
    if not is_number(number) or number < least or number > most:
        raise BadNumber(part)


def check_letters(letters):
    """Raises BadNumber("letters")."""
    check_between(letters, 1, MOST_LETTERS, "letters")


def check_side(side):
    """Raises BadNumber("side")."""
    check_between(side, 0, 1, "side")


def check_row(row, size):
    """Raises BadRow unless this is a row of this size."""
    if not is_row(row, size):
        raise BadRow("a list of the right number of numbers is asked")


def check_rows(rows, size):
    """Raises BadRow unless this is a list of rows of this size."""
    if not is_rows(rows, size):
        raise BadRow("a list of rows of one size is asked")


def table_letters(table):
    """How many letters the table is for; BadTable unless it is a letter table for 1 to 9 letters."""
    if not is_any_table(table):
        raise BadTable("a list of 1 to 9 rows of as many numbers is asked")
    return len(table)


def words_many(letters, length):
    """How many words there are; TooMany(1000) if above 1000."""
    many = 1
    # One letter has one word of each length: without a loop even the longest is told at once.
    for _ in range(length if letters > 1 else 0):
        many *= letters
        if many > MOST_WORDS:
            raise TooMany(MOST_WORDS)
    return many


def length_many(letters, length):
    """How many words of this length there are; BadNumber("length"), then TooMany(1000)."""
    check_from(length, 0, "length")
    return words_many(letters, length)
