"""All multipliers for sheets [1.4], and the words of each of them, in ascending order of the multipliers."""

from hoursheets.rows import plus_multiple, zero_row


def tuples_over(hours, many):
    """The list of all tuples of so many of some hours, in the order of these."""
    found = [()]
    for _ in range(many):
        found = [before + (hour,) for before in found for hour in hours]
    return found


def multipliers_of(n, many):
    """The ascending list of all tuples of so many hours."""
    return tuples_over(list(range(n)), many)


def words_in_order(n, sheet):
    """The list of the words of all multipliers for a sheet, in the order of these."""
    words = [zero_row(len(sheet[0]))]
    for row in sheet:
        words = [plus_multiple(n, word, number, row) for word in words for number in range(n)]
    return words
