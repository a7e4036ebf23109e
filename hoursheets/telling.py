"""Weighings that tell or lose [4.2], and the rows that show that one loses [4.3], [4.4]."""

from hoursheets.certificates import is_kind
from hoursheets.clocks import divisors
from hoursheets.errors import BadCounts, TooLong
from hoursheets.rows import MOST_HOURS, zero_row
from hoursheets.sums import sign_number
from hoursheets.tables import is_led_to_zeros, is_quotient, led_to_zeros, quotient, rank, unit_table
from hoursheets.weighings import classes, weight_table


def judge_weighing(n, w):
    """A certificate that a weighing tells, or that it loses."""
    table = weight_table(n, w)
    undoing = quotient(table, unit_table(len(table)))
    if undoing is None:
        return ("loses", led_to_zeros(table)[0])
    return ("tells",) + undoing


def weighing_holds(n, w, thing):
    """Whether any value is a certificate of one of the two kinds."""
    table = weight_table(n, w)
    if is_kind(thing, "tells", 3):
        return is_quotient(table, unit_table(len(table)), thing[1], thing[2])
    if is_kind(thing, "loses", 2):
        return is_led_to_zeros(table, thing[1]) and any(thing[1])
    return False


def rank_of(n, w):
    """The rank of a weighing."""
    return rank(weight_table(n, w))


def is_telling(n, w):
    """Whether a weighing tells."""
    return rank_of(n, w) == len(classes(n, w))


def hours_often(hours, counts):
    """The tuple of each of some hours as often as counts tell; those with counts below 0 are left out."""
    found = []
    for hour, count in zip(hours, counts):
        found.extend([hour] * count)
    return tuple(found)


def two_sheets(n, w, counts):
    """Two sheets of one row each that weigh alike and are no exchange of one another."""
    if not weighing_holds(n, w, ("loses", counts)):
        raise BadCounts(counts)
    # Counts can be too large to be written out, so their sums are looked at first.
    many = sum(count for count in counts if count > 0)
    others = -sum(count for count in counts if count < 0)
    length = max(many, others)
    if length > MOST_HOURS:
        raise TooLong()
    least = [members[0] for members in classes(n, w)]
    one = hours_often(least, counts)
    other = hours_often(least, [-count for count in counts])
    return ((one + zero_row(length - many),), (other + zero_row(length - others),))


def two_rows_at(n, divisor):
    """The two rows that weigh alike if the depth sum at a divisor is 0."""
    rest = n // divisor
    rows = []
    for sign in (1, -1):
        hours = [divisor * t % n for t in divisors(rest) if sign_number(rest // t) == sign]
        rows.append(tuple(sorted(hours)))
    return tuple(rows)
