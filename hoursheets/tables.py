"""Square tables of integers: what undoes them, and what they lead to zeros.

All steps stay with integers: what is divided by is known to divide (E. Bareiss 1968).
"""

from hoursheets.clocks import is_whole
from hoursheets.wholes import common_divisor, is_wholes


def unit_table(size):
    """The table with 1 at like numbers of row and column, and 0 otherwise."""
    return tuple(tuple([1 if row == column else 0 for column in range(size)]) for row in range(size))


def cleared(row, lead, at, last):
    """The sum of multiples of a row and the leading one that has 0 at a position, divided by the last number."""
    return [(lead[at] * item - row[at] * other) // last for item, other in zip(row, lead)]


def eliminated(table, width):
    """What comes of leading with a table's rows at positions below a width, one after the other.

    It is (rows, leads, number): the first rows have the number at their own lead and 0 at the other leads,
    the rows behind them have 0 at all positions below the width.
    """
    rows = [list(row) for row in table]
    leads = []
    last = 1
    for at in range(width):
        done = len(leads)
        fitting = [k for k in range(done, len(rows)) if rows[k][at] != 0]
        if fitting:
            lead = rows[fitting[0]]
            rows[fitting[0]] = rows[done]
            rows[done] = lead
            rows = [row if k == done else cleared(row, lead, at, last) for k, row in enumerate(rows)]
            leads.append(at)
            last = lead[at]
    return rows, leads, last


def rank(table):
    """How many rows of a square table there are of which none is a sum of fractions times the others."""
    return len(eliminated(table, len(table))[1])


def led_to_zeros(table):
    """Tuples of integers that a square table leads to zeros, of which all others are sums of fractions."""
    size = len(table)
    rows, leads, number = eliminated(table, size)
    found = []
    for free in range(size):
        if free not in leads:
            counts = [0] * size
            counts[free] = number
            for row, at in zip(rows, leads):
                counts[at] = -row[free]
            common = common_divisor(counts)
            found.append(tuple([count // common for count in counts]))
    return found


def quotient(table, other):
    """A pair (rows, number) such that rows times the table is number times the other one; None if there is none.

    Both tables are square, of one size, and equal to their mirror images.
    """
    size = len(table)
    beside = [tuple(row) + tuple(more) for row, more in zip(table, other)]
    rows, leads, number = eliminated(beside, size)
    if any(any(row) for row in rows[len(leads):]):
        return None
    # The table times the mirror image of rows is the same question, as the tables are their own mirror images.
    found = [[0] * size for row in table]
    for row, at in zip(rows, leads):
        for k in range(size):
            found[k][at] = row[size + k]
    common = common_divisor([number] + [common_divisor(row) for row in found])
    if number < 0:
        common = -common
    return tuple(tuple([item // common for item in row]) for row in found), number // common


def image_of(table, counts):
    """What a table leads some integers to: the sum of the products with each row."""
    return [sum(item * count for item, count in zip(row, counts)) for row in table]


def is_quotient(table, other, rows, number):
    """Whether any values are rows and a number from 1 on such that rows times the table is number times the other."""
    size = len(table)
    if not isinstance(rows, tuple) or len(rows) != size or not all(is_wholes(row, size) for row in rows):
        return False
    if not is_whole(number) or number < 1:
        return False
    columns = list(zip(*table))
    return all(image_of(columns, row) == [number * item for item in more] for row, more in zip(rows, other))


def is_led_to_zeros(table, thing):
    """Whether any value is a tuple of integers that a square table leads to zeros."""
    return is_wholes(thing, len(table)) and not any(image_of(table, thing))
