"""Annulled sheets [3.1], sums and meets [3.2], multiples and parts [3.3].

Each answer is a reduced sheet of words behind a position: rows are put beside one another so that
just the words in question have hours 0 ahead of it.
"""

from hoursheets.leads import marked, sheet_behind
from hoursheets.rows import columns_of, is_row, multiple, need_like_sheets, need_sheet, product_of, zero_row


def annulled(n, sheet):
    """The reduced sheet whose words are just the rows that a sheet annuls."""
    need_sheet(n, sheet)
    # A sum of marked columns begins with the products of the row of its marks with the rows.
    return sheet_behind(n, marked(columns_of(n, sheet), 1), len(sheet))


def is_annulled(n, sheet, thing):
    """Whether any value is a row of the length of the sheet that the sheet annuls."""
    need_sheet(n, sheet)
    if not is_row(n, thing) or len(thing) != len(sheet[0]):
        return False
    return all(product_of(n, row, thing) == 0 for row in sheet)


def sum_of(n, one, other):
    """The reduced sheet whose words are the sums of a word of each of two sheets."""
    need_like_sheets(n, one, other)
    return sheet_behind(n, one + other, 0)


def meet_of(n, one, other):
    """The reduced sheet whose words are the words of both sheets."""
    need_like_sheets(n, one, other)
    length = len(one[0])
    twice = [row + row for row in one]
    once = [row + zero_row(length) for row in other]
    return sheet_behind(n, twice + once, length)


def multiples_of(n, sheet, t):
    """The reduced sheet whose words are t times the words."""
    need_sheet(n, sheet)
    return sheet_behind(n, [multiple(n, t, row) for row in sheet], 0)


def part_of(n, sheet, t):
    """The reduced sheet whose words are the words that t leads to the row of hours 0."""
    need_sheet(n, sheet)
    return sheet_behind(n, [multiple(n, t, row) + row for row in sheet], len(sheet[0]))


def divided(n, sheet, t):
    """The reduced sheet whose words are all rows that t leads to a word."""
    need_sheet(n, sheet)
    length = len(sheet[0])
    words = [row + zero_row(length) for row in sheet]
    # Rows with t at one position each, and their marks: any row, behind t times this row.
    places = marked(marked([()] * length, t % n), 1)
    return sheet_behind(n, words + places, length)


def has_words(n, one, other):
    """Whether all words of the other sheet are words of the one."""
    return sum_of(n, one, other) == sheet_behind(n, one, 0)
