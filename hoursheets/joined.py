"""Sheets that stand beside, beneath or apart from one another [12.1], and cut and shortened sheets [12.2]."""

from hoursheets.errors import BadSheet, OtherLengths
from hoursheets.leads import sheet_behind
from hoursheets.rows import need_like_sheets, need_sheet, zero_row


def beside(n, one, other):
    """The rows of the other sheet behind those of the one with the same number."""
    need_sheet(n, one)
    need_sheet(n, other)
    if len(one) != len(other):
        raise OtherLengths()
    return tuple([row + more for row, more in zip(one, other)])


def beneath(n, one, other):
    """All rows of the one sheet, and behind them those of the other one."""
    need_like_sheets(n, one, other)
    return one + other


def apart(n, one, other):
    """The sheet whose words are all pairs of a word of the one sheet and a word of the other one."""
    need_sheet(n, one)
    need_sheet(n, other)
    behind, ahead = zero_row(len(other[0])), zero_row(len(one[0]))
    return tuple([row + behind for row in one] + [ahead + row for row in other])


def parted(n, sheet, position):
    """The rows of a sheet, each with its hour at a position put ahead of all others."""
    need_sheet(n, sheet)
    if len(sheet[0]) == 1:
        raise BadSheet(sheet)
    return [(row[position],) + row[:position] + row[position + 1:] for row in sheet]


def cut(n, sheet, position):
    """The reduced sheet whose words are the words without their hour at a position."""
    return sheet_behind(n, [row[1:] for row in parted(n, sheet, position)], 0)


def shortened(n, sheet, position):
    """The reduced sheet whose words are the words that have the hour 0 at a position, without this hour."""
    return sheet_behind(n, parted(n, sheet, position), 1)
