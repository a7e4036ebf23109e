"""Weighings that all maps keep that keep another one [9.1], with certificates [9.2]."""

from hoursheets.certificates import is_kind
from hoursheets.clocks import is_hour
from hoursheets.tables import image_of, is_led_to_zeros, is_quotient, led_to_zeros, quotient
from hoursheets.weighings import keepers, need_weighing, table_by_classes


def need_weighings(n, w, v):
    """Raises BadWeighing with the first value that is no weighing."""
    need_weighing(n, w)
    need_weighing(n, v)


def unkept_hour(n, w, v):
    """A pair of a keeper u of w and an hour a with v(u a) unlike v(a); None if all keepers of w are those of v."""
    for keeper in keepers(n, w):
        for hour in range(n):
            if v[keeper * hour % n] != v[hour]:
                return (keeper, hour)
    return None


def judge_along(n, w, v):
    """A certificate that v is kept along with w, or that it is not."""
    need_weighings(n, w, v)
    unkept = unkept_hour(n, w, v)
    if unkept is not None:
        return ("unit",) + unkept
    table, other = table_by_classes(n, w, w), table_by_classes(n, w, v)
    found = quotient(table, other)
    if found is not None:
        return ("by",) + found
    telling = [counts for counts in led_to_zeros(table) if any(image_of(other, counts))]
    return ("counts", telling[0])


def is_unkept(n, w, v, keeper, hour):
    """Whether any values are a keeper of w and an hour that show that it is none of v."""
    if not is_hour(n, keeper) or not is_hour(n, hour) or keeper not in keepers(n, w):
        return False
    return v[keeper * hour % n] != v[hour]


def along_holds(n, w, v, thing):
    """Whether any value is a certificate of one of the three kinds."""
    need_weighings(n, w, v)
    if is_kind(thing, "unit", 3):
        return is_unkept(n, w, v, thing[1], thing[2])
    table, other = table_by_classes(n, w, w), table_by_classes(n, w, v)
    if is_kind(thing, "by", 3):
        return unkept_hour(n, w, v) is None and is_quotient(table, other, thing[1], thing[2])
    if is_kind(thing, "counts", 2):
        return is_led_to_zeros(table, thing[1]) and any(image_of(other, thing[1]))
    return False


def is_along(n, w, v):
    """Whether v is kept along with w."""
    return judge_along(n, w, v)[0] == "by"
