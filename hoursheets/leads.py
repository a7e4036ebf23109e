"""How rows are led to reduced ones [2.1]: Euclid's steps, position by position (J. Howell 1986).

The rows here are known to be tuples of hours of one length, which may be above 20: most questions
about words become a question about longer rows, of which only the part behind a position is asked for.
"""

from math import gcd

from hoursheets.clocks import unit_between
from hoursheets.rows import multiple, plus_multiple, zero_row


def lead_of(row):
    """The position of the first hour other than 0 of a row that has one."""
    at = 0
    while row[at] == 0:
        at += 1
    return at


def euclid_steps(n, one, other, at):
    """Two rows with the sums of multiples of two rows, the second one with the hour 0 at a position."""
    while other[at] != 0:
        one, other = other, plus_multiple(n, one, -(one[at] // other[at]), other)
    return one, other


def part_at(n, rows, at):
    """One row that leads at a position (None if none does), and rows with hours 0 there.

    All rows have hours 0 ahead of the position. What comes of it has the same words.
    """
    lead = None
    rest = []
    for row in rows:
        if row[at] == 0:
            rest.append(row)
        elif lead is None:
            lead = row
        else:
            lead, left = euclid_steps(n, lead, row, at)
            rest.append(left)
    if lead is not None:
        divisor = gcd(lead[at], n)
        lead = multiple(n, unit_between(n, lead[at], divisor), lead)
        # The words that have the hour 0 here come of this multiple, too, and not of the rest alone.
        rest.append(multiple(n, n // divisor, lead))
    return lead, [row for row in rest if any(row)]


def least_row(n, leading, row):
    """The least row that is a row plus a sum of multiples of the rows of a reduced sheet."""
    least = row
    for other in leading:
        at = lead_of(other)
        least = plus_multiple(n, least, -(least[at] // other[at]), other)
    return least


def reduced_rows(n, rows):
    """The list of the rows of the reduced sheet for some rows; empty for hours 0 alone."""
    found = []
    rest = [row for row in rows if any(row)]
    for at in range(len(rows[0])):
        lead, rest = part_at(n, rest, at)
        if lead is not None:
            found.append(lead)
    leading = []
    for row in reversed(found):
        leading = [least_row(n, leading, row)] + leading
    return leading


def sheet_behind(n, rows, start):
    """The reduced sheet of the words that have hours 0 alone ahead of a position, without these hours."""
    behind = [row[start:] for row in reduced_rows(n, rows) if not any(row[:start])]
    if not behind:
        return (zero_row(len(rows[0]) - start),)
    return tuple(behind)


def marked(rows, mark):
    """The rows, behind each one as many hours as there are rows: a mark at its own number, else 0."""
    return [row + zero_row(at) + (mark,) + zero_row(len(rows) - 1 - at) for at, row in enumerate(rows)]
