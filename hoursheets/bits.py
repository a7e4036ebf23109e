"""The clock of four in bits [12.4]."""

from hoursheets.clocks import is_hour
from hoursheets.errors import BadRow
from hoursheets.leads import least_row, reduced_rows
from hoursheets.reduced import words_of
from hoursheets.rows import MOST_HOURS, need_row, need_sheet

FOUR = 4
BITS = ((0, 0), (0, 1), (1, 1), (1, 0))


def bits_of(row):
    """The tuple of the bits of the hours of a row, one behind the other."""
    need_row(FOUR, row)
    bits = []
    for hour in row:
        bits.extend(BITS[hour])
    return tuple(bits)


def is_bits(thing):
    """Whether any value is a tuple of the bits of some row."""
    if not isinstance(thing, tuple) or not 2 <= len(thing) <= 2 * MOST_HOURS:
        return False
    return len(thing) % 2 == 0 and all(is_hour(2, bit) for bit in thing)


def row_of_bits(thing):
    """The row with these bits."""
    if not is_bits(thing):
        raise BadRow(thing)
    return tuple([BITS.index(thing[at:at + 2]) for at in range(0, len(thing), 2)])


def open_pair(sheet):
    """The least pair of numbers of rows such that the row of twice their products is no word; None if closed."""
    need_sheet(FOUR, sheet)
    leading = reduced_rows(FOUR, sheet)
    for i, one in enumerate(sheet):
        for j in range(i + 1, len(sheet)):
            twice = tuple([2 * hour * more % FOUR for hour, more in zip(one, sheet[j])])
            if any(least_row(FOUR, leading, twice)):
                return (i, j)
    return None


def bit_words(sheet):
    """The ascending tuple of the bits of all words."""
    return tuple(sorted([bits_of(word) for word in words_of(FOUR, sheet)]))
