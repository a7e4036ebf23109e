"""Lists of the weights of the words of all multipliers [7.1], and counts of columns [7.2]."""

from hoursheets.errors import BadCounts, TooLong
from hoursheets.exchanges import class_counts, least_of_class
from hoursheets.multipliers import multipliers_of, words_in_order
from hoursheets.rows import MOST_HOURS, is_row, need_sheet, product_of, sheet_of
from hoursheets.weighings import keepers, need_weighing, weigh
from hoursheets.wholes import common_multiple, fraction, is_fraction, is_wholes, power


def list_of(n, w, sheet):
    """The list of a sheet: what the word of each multipliers weighs."""
    need_weighing(n, w)
    need_sheet(n, sheet)
    return tuple([weigh(w, word) for word in words_in_order(n, sheet)])


def counts_of(n, w, sheet):
    """The counts of a sheet: how often each class of columns stands in it, the column of zeros left out."""
    return tuple((column, (many, 1)) for column, many in class_counts(n, w, sheet) if any(column))


def is_list(n, k, thing):
    """Whether any value is a list."""
    return is_wholes(thing, power(n, k)) and thing[0] == 0


def is_count(n, kept, k, thing):
    """Whether any value is a pair that can stand in counts, by the keepers of the weighing."""
    if not isinstance(thing, tuple) or len(thing) != 2:
        return False
    column, number = thing
    if not is_row(n, column) or len(column) != k or not any(column):
        return False
    return least_of_class(n, kept, column) == column and is_fraction(number) and number[0] != 0


def is_counts(n, w, k, thing):
    """Whether any value is counts."""
    kept = keepers(n, w)
    if not isinstance(thing, tuple) or not all(is_count(n, kept, k, pair) for pair in thing):
        return False
    columns = [pair[0] for pair in thing]
    return columns == sorted(set(columns))


def need_counts(n, w, k, thing):
    """Raises BadWeighing, then BadCounts for any value that is no counts."""
    if not is_counts(n, w, k, thing):
        raise BadCounts(thing)


def weight_of_counts(n, w, counts, multipliers):
    """The sum of all numbers of pairs (column, number) times what the sum of the column's multiples weighs."""
    return sum(number * w[product_of(n, multipliers, column)] for column, number in counts)


def list_of_counts(n, w, k, counts):
    """The tuple of the fractions that the list of counts has."""
    need_counts(n, w, k, counts)
    common = common_multiple([number[1] for column, number in counts])
    whole = [(column, top * (common // bottom)) for column, (top, bottom) in counts]
    return tuple([fraction(weight_of_counts(n, w, whole, x), common) for x in multipliers_of(n, k)])


def are_often(counts):
    """Whether all numbers of counts are integers above 0, so that they tell how often columns stand."""
    return all(top > 0 and bottom == 1 for column, (top, bottom) in counts)


def sheet_of_counts(n, w, k, counts):
    """The sheet that has each column as often as counts tell, in ascending order."""
    need_counts(n, w, k, counts)
    if not counts or not are_often(counts):
        raise BadCounts(counts)
    # Numbers can be too large to be written out, so their sum is looked at first.
    if sum(number[0] for column, number in counts) > MOST_HOURS:
        raise TooLong()
    columns = []
    for column, number in counts:
        columns.extend([column] * number[0])
    return sheet_of(n, tuple(columns))
