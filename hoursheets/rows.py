"""Rows and sheets of hours [1.4]: sums, multiples, products, words and columns."""

from hoursheets.clocks import is_hour, is_whole
from hoursheets.errors import BadRow, BadSheet, OtherLengths

MOST_HOURS = 20
MOST_ROWS = 20


def is_row(n, thing):
    """Whether any value is a row."""
    if not isinstance(thing, tuple):
        return False
    return 1 <= len(thing) <= MOST_HOURS and all(is_hour(n, hour) for hour in thing)


def is_sheet(n, thing):
    """Whether any value is a sheet."""
    if not isinstance(thing, tuple) or not 1 <= len(thing) <= MOST_ROWS:
        return False
    return all(is_row(n, row) for row in thing) and all(len(row) == len(thing[0]) for row in thing)


def is_multipliers(n, sheet, thing):
    """Whether any value is multipliers for a sheet; these are a row, as sheets have up to 20 rows."""
    return is_row(n, thing) and len(thing) == len(sheet)


def is_place(sheet, thing):
    """Whether any value is the position of a row of a sheet."""
    return is_whole(thing) and 0 <= thing < len(sheet)


def need_row(n, thing):
    """Raises BadRow for any value that is no row."""
    if not is_row(n, thing):
        raise BadRow(thing)


def need_sheet(n, thing):
    """Raises BadSheet for any value that is no sheet."""
    if not is_sheet(n, thing):
        raise BadSheet(thing)


def need_like_rows(n, one, other):
    """Raises BadRow with the first value that is no row, then OtherLengths."""
    need_row(n, one)
    need_row(n, other)
    if len(one) != len(other):
        raise OtherLengths()


def need_like_sheets(n, one, other):
    """Raises BadSheet with the first value that is no sheet, then OtherLengths."""
    need_sheet(n, one)
    need_sheet(n, other)
    if len(one[0]) != len(other[0]):
        raise OtherLengths()


def need_row_of(n, sheet, row):
    """Raises BadSheet, then BadRow, then OtherLengths if the row is not as long as the sheet."""
    need_sheet(n, sheet)
    need_row(n, row)
    if len(sheet[0]) != len(row):
        raise OtherLengths()


def multiple(n, number, row):
    """An integer times a row that is known to be one, of any length."""
    return tuple([number * hour % n for hour in row])


def plus_multiple(n, one, number, other):
    """A row plus an integer times another row, both known to be rows of one length, however long."""
    return tuple([(hour + number * more) % n for hour, more in zip(one, other)])


def product_of(n, one, other):
    """The product of two rows that are known to be rows of one length."""
    return sum(hour * more for hour, more in zip(one, other)) % n


def zero_row(length):
    """The row of hours 0 alone."""
    return (0,) * length


def row_sum(n, one, other):
    """The sum of two rows."""
    need_like_rows(n, one, other)
    return plus_multiple(n, one, 1, other)


def row_product(n, one, other):
    """The product of two rows, an hour."""
    need_like_rows(n, one, other)
    return product_of(n, one, other)


def row_multiple(n, number, row):
    """An integer times a row."""
    need_row(n, row)
    return multiple(n, number, row)


def word_of(n, sheet, multipliers):
    """The word of multipliers for a sheet."""
    need_sheet(n, sheet)
    if not is_multipliers(n, sheet, multipliers):
        raise BadRow(multipliers)
    word = zero_row(len(sheet[0]))
    for number, row in zip(multipliers, sheet):
        word = plus_multiple(n, word, number, row)
    return word


def columns_of(n, sheet):
    """The tuple of all columns of a sheet, in order."""
    need_sheet(n, sheet)
    return tuple(zip(*sheet))


def sheet_of(n, columns):
    """The sheet with these columns, in order."""
    # A sheet has as many columns as rows at most, so columns of a sheet are just a sheet, too.
    need_sheet(n, columns)
    return tuple(zip(*columns))
