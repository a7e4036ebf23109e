"""Weighings of hours [4.1], those alike on units [4.4], and some weighings of each clock [4.5]."""

from hoursheets.clocks import divisors, is_whole, order, units
from hoursheets.errors import BadWeighing
from hoursheets.rows import need_row
from hoursheets.sums import sign_number, unit_number
from hoursheets.wholes import common_divisor, common_multiple

MOST_WEIGHT = 10 ** 6


def is_weight(thing):
    """Whether any value can be the weight of an hour other than 0."""
    return is_whole(thing) and 1 <= thing <= MOST_WEIGHT


def is_weighing(n, thing):
    """Whether any value is a weighing."""
    if not isinstance(thing, tuple) or len(thing) != n:
        return False
    return is_whole(thing[0]) and thing[0] == 0 and all(is_weight(weight) for weight in thing[1:])


def need_weighing(n, thing):
    """Raises BadWeighing for any value that is no weighing."""
    if not is_weighing(n, thing):
        raise BadWeighing(thing)


def plain_weighing(n):
    """The weighing with 1 at all hours other than 0."""
    return (0,) + (1,) * (n - 1)


def round_weighing(n):
    """The weighing with a or n - a at each hour a, whichever is less."""
    return tuple(min(hour, n - hour) for hour in range(n))


def square_weighing(n):
    """The weighing with the squares of the round one."""
    return tuple(weight * weight for weight in round_weighing(n))


def level_weighing(n):
    """The least weighing that is to 1 - mu(m) / phi(m) alike at all hours, of the order m each."""
    orders = [order(n, hour) for hour in range(1, n)]
    bottom = common_multiple([unit_number(m) for m in orders])
    weights = [bottom - sign_number(m) * (bottom // unit_number(m)) for m in orders]
    common = common_divisor(weights)
    return (0,) + tuple([weight // common for weight in weights])


def weigh(w, row):
    """What a row weighs, both known to be a weighing and a row."""
    return sum(w[hour] for hour in row)


def weight_of(n, w, row):
    """What a row weighs."""
    need_weighing(n, w)
    need_row(n, row)
    return weigh(w, row)


def is_keeper(n, w, unit):
    """Whether a unit keeps the weight of each hour."""
    return all(w[unit * hour % n] == w[hour] for hour in range(n))


def keepers(n, w):
    """The ascending tuple of the keepers."""
    need_weighing(n, w)
    return tuple(unit for unit in units(n) if is_keeper(n, w, unit))


def classes(n, w):
    """The tuple of the classes, in the order of their least hours."""
    kept = keepers(n, w)
    found = []
    for hour in range(1, n):
        members = sorted({unit * hour % n for unit in kept})
        if members[0] == hour:
            found.append(tuple(members))
    return tuple(found)


def table_by_classes(n, w, v):
    """The table of what v gives to the products of the least hours of the classes of w."""
    least = [members[0] for members in classes(n, w)]
    return tuple(tuple([v[one * other % n] for other in least]) for one in least)


def weight_table(n, w):
    """The table of the weights of the products of the least hours of the classes."""
    return table_by_classes(n, w, w)


def is_alike_on_units(n, w):
    """Whether all units are keepers."""
    return keepers(n, w) == units(n)


def depth_sum(n, w, divisor):
    """The sum of mu(n / b) w(b) over all divisors b of n below n that the divisor divides."""
    return sum(sign_number(n // b) * w[b] for b in divisors(n)[:-1] if b % divisor == 0)


def depth_sums(n, w):
    """The tuple of the depth sums at all divisors of n below n; None if not alike on units."""
    if not is_alike_on_units(n, w):
        return None
    return tuple(depth_sum(n, w, divisor) for divisor in divisors(n)[:-1])
