"""Clocks put together [12.3]: sheets and weighings of a clock, told by the remainders by two other ones."""

from hoursheets.clocks import inverse
from hoursheets.errors import OtherLengths
from hoursheets.leads import sheet_behind
from hoursheets.rows import multiple, need_sheet
from hoursheets.weighings import need_weighing


def hour_over(a, b):
    """The hour of the clock a b whose remainders are 1 by a and 0 by b."""
    return b * inverse(a, b % a)


def made_of(a, b, one, other):
    """The reduced sheet whose words are told by a word of a sheet of a and a word of a sheet of b."""
    need_sheet(a, one)
    need_sheet(b, other)
    if len(one[0]) != len(other[0]):
        raise OtherLengths()
    n = a * b
    rows = [multiple(n, hour_over(a, b), row) for row in one]
    more = [multiple(n, hour_over(b, a), row) for row in other]
    return sheet_behind(n, rows + more, 0)


def part_by(n, a, sheet):
    """The reduced sheet of the clock a whose words are the remainders of the words."""
    need_sheet(n, sheet)
    return sheet_behind(a, [multiple(a, 1, row) for row in sheet], 0)


def weighing_of(a, b, u, v):
    """The weighing of the clock a b that gives an hour what two weighings give to its remainders."""
    need_weighing(a, u)
    need_weighing(b, v)
    return tuple([u[hour % a] + v[hour % b] for hour in range(a * b)])
