"""The words of three letters that begin and end with rules, and what lower parts make of them."""

from ruleshadows.commonstock import CommonStock


def three_ways(book):
    """For each row of common_room(book, 3) the two sums that it is: of rules followed by letters, of letters followed
    by rules; each as a list of triples of the rule's index, the letter and the number."""
    commons = CommonStock(book)
    return [
        (_triples(letters_behind), _triples(letters_ahead))
        for letters_behind, letters_ahead in zip(commons.off_rows(3, 1), commons.off_rows(3, 0))
    ]


def _triples(offs):
    return [(i, letter, number) for letter, told in enumerate(offs) for i, number in told.items()]
