"""Whether a row is a word of a sheet [2.2], and the least row of a shelf [13.2]."""

from hoursheets.annulled import annulled, is_annulled
from hoursheets.leads import least_row, marked, reduced_rows
from hoursheets.rows import is_multipliers, need_row_of, product_of, word_of, zero_row


def judged(n, sheet, leading, row):
    """A certificate for a sheet and a row, by the rows of the reduced sheet for the marked rows of the sheet."""
    length = len(row)
    left = least_row(n, leading, row + zero_row(len(sheet)))
    if not any(left[:length]):
        # What was taken away has left its multipliers at the marks, with the sign turned.
        return ("sum", tuple([-mark % n for mark in left[length:]]))
    bars = [other for other in annulled(n, sheet) if product_of(n, other, row) != 0]
    return ("barred", bars[0])


def judge_within(n, sheet, row):
    """A certificate that the row is a word, or that it is barred."""
    need_row_of(n, sheet, row)
    return judged(n, sheet, reduced_rows(n, marked(sheet, 1)), row)


def within_holds(n, sheet, row, thing):
    """Whether any value is a certificate of one of the two kinds."""
    need_row_of(n, sheet, row)
    if not isinstance(thing, tuple) or len(thing) != 2:
        return False
    kind, proof = thing
    if kind == "sum":
        return is_multipliers(n, sheet, proof) and word_of(n, sheet, proof) == row
    if kind == "barred":
        return is_annulled(n, sheet, proof) and product_of(n, proof, row) != 0
    return False


def is_within(n, sheet, row):
    """Whether the row is a word."""
    return not any(least_on_shelf(n, sheet, row))


def least_on_shelf(n, sheet, row):
    """The least of all rows that are the row plus a word."""
    need_row_of(n, sheet, row)
    return least_row(n, reduced_rows(n, sheet), row)
