"""Lists of weights read back as counts of columns [7.3], [7.4], with certificates [7.5]."""

from hoursheets.certificates import is_kind
from hoursheets.clocks import is_hour
from hoursheets.errors import BadList, Clash, Loses
from hoursheets.exchanges import least_of_class
from hoursheets.lists import are_often, is_counts, is_list, list_of_counts
from hoursheets.multipliers import multipliers_of
from hoursheets.rows import is_row, multiple, product_of
from hoursheets.sums import sum_number, unit_number
from hoursheets.telling import judge_weighing
from hoursheets.weighings import classes, keepers, need_weighing
from hoursheets.wholes import common_multiple, fraction, power


def undoing_of(n, w):
    """The rows and the number that undo the weight table of a weighing; raises Loses for one that loses."""
    certificate = judge_weighing(n, w)
    if certificate[0] == "loses":
        raise Loses(certificate)
    return certificate[1:]


def need_told(n, w, k, weights):
    """Raises BadWeighing, then BadList, then Loses; returns what undoes the weight table."""
    need_weighing(n, w)
    if not is_list(n, k, weights):
        raise BadList(weights)
    return undoing_of(n, w)


def items_of(n, k, weights):
    """The items of a list by their multipliers, in ascending order of these."""
    return dict(zip(multipliers_of(n, k), weights))


def unlike_item(n, w, k, weights):
    """A keeper u and the least multipliers x at which a list is unlike at some u x; None if it is alike on keepers."""
    items = items_of(n, k, weights)
    kept = keepers(n, w)
    for x in items:
        for keeper in kept:
            if items[multiple(n, keeper, x)] != items[x]:
                return (keeper, x)
    return None


def shares_at(n, groups, rows, items, x):
    """For each hour the number of columns whose product with multipliers x it is, up to one bottom for all.

    The numbers for classes come from the items by the weight table undone, and are shared evenly among the
    hours of each class. What is told for the hour 0 is 0.
    """
    common = common_multiple([len(members) for members in groups])
    told = [items[multiple(n, members[0], x)] for members in groups]
    shares = [0] * n
    for members, row in zip(groups, rows):
        share = sum(item * weight for item, weight in zip(row, told)) * (common // len(members))
        for hour in members:
            shares[hour] = share
    return shares


def heights_of(n, shares):
    """For each hour h the sum of all e(x, a) (c(n, a - h) - c(n, h)) of [7.4], the shares being the e(x, a)."""
    numbers = [sum_number(n, hour) for hour in range(n)]
    total = sum(shares)
    heights = []
    for h in range(n):
        turned = sum(share * numbers[(a - h) % n] for a, share in enumerate(shares))
        heights.append(turned - numbers[h] * total)
    return heights


def counts_by(n, w, k, weights, undoing):
    """The counts that have a list that is alike on keepers, by what undoes the weight table."""
    rows, number = undoing
    kept, groups = keepers(n, w), classes(n, w)
    items = items_of(n, k, weights)
    told = [(x, heights_of(n, shares_at(n, groups, rows, items, x))) for x in items]
    bottom = number * common_multiple([len(members) for members in groups]) * power(n, k) * unit_number(n)
    counts = []
    for column in multipliers_of(n, k):
        if any(column) and least_of_class(n, kept, column) == column:
            many = len({multiple(n, keeper, column) for keeper in kept})
            top = many * sum(heights[product_of(n, column, x)] for x, heights in told)
            if top != 0:
                counts.append((column, fraction(top, bottom)))
    return tuple(counts)


def read_back(n, w, k, weights):
    """The counts that have a list."""
    undoing = need_told(n, w, k, weights)
    unlike = unlike_item(n, w, k, weights)
    if unlike is not None:
        raise Clash(unlike[1])
    return counts_by(n, w, k, weights, undoing)


def judge_list(n, w, k, weights):
    """A certificate that a list is that of a sheet, or that it is not."""
    undoing = need_told(n, w, k, weights)
    unlike = unlike_item(n, w, k, weights)
    if unlike is not None:
        return ("keeper",) + unlike
    counts = counts_by(n, w, k, weights, undoing)
    for pair in counts:
        if not are_often((pair,)):
            return ("column",) + pair
    return ("counts", counts)


def is_having(n, w, k, weights, thing):
    """Whether any value is counts that have a list, all numbers being integers above 0."""
    if not is_counts(n, w, k, thing) or not are_often(thing):
        return False
    return list_of_counts(n, w, k, thing) == tuple([(weight, 1) for weight in weights])


def is_unlike_at(n, w, k, weights, keeper, x):
    """Whether any values are a keeper and multipliers such that a list has unlike items at x and keeper times x."""
    if not is_hour(n, keeper) or keeper not in keepers(n, w) or not is_row(n, x) or len(x) != k:
        return False
    items = items_of(n, k, weights)
    return items[x] != items[multiple(n, keeper, x)]


def list_holds(n, w, k, weights, thing):
    """Whether any value is a certificate of one of the three kinds."""
    undoing = need_told(n, w, k, weights)
    if is_kind(thing, "counts", 2):
        return is_having(n, w, k, weights, thing[1])
    if is_kind(thing, "keeper", 3):
        return is_unlike_at(n, w, k, weights, thing[1], thing[2])
    if is_kind(thing, "column", 3):
        pair = thing[1:]
        if not is_counts(n, w, k, (pair,)) or are_often((pair,)) or unlike_item(n, w, k, weights) is not None:
            return False
        return pair in counts_by(n, w, k, weights, undoing)
    return False
