"""Clocks [1.1]: their hours, units and divisors, and the depths and orders of hours."""

from math import gcd

from hoursheets.errors import BadHour

LEAST_CLOCK = 2
LARGEST_CLOCK = 30


def is_whole(thing):
    """Whether any value is an integer; a bool is none."""
    return isinstance(thing, int) and not isinstance(thing, bool)


def is_clock(thing):
    """Whether any value is a clock."""
    return is_whole(thing) and LEAST_CLOCK <= thing <= LARGEST_CLOCK


def is_hour(n, thing):
    """Whether any value is an hour."""
    return is_whole(thing) and 0 <= thing < n


def is_unit(n, thing):
    """Whether any value is a unit."""
    return is_hour(n, thing) and gcd(thing, n) == 1


def units(n):
    """The ascending tuple of the units."""
    return tuple(hour for hour in range(n) if is_unit(n, hour))


def divisors(n):
    """The ascending tuple of the divisors."""
    return tuple(number for number in range(1, n + 1) if n % number == 0)


def need_hour(n, thing):
    """Raises BadHour for any value that is no hour."""
    if not is_hour(n, thing):
        raise BadHour(thing)


def depth(n, hour):
    """The greatest common divisor of an hour with the clock."""
    need_hour(n, hour)
    return gcd(hour, n)


def order(n, hour):
    """The least integer from 1 on that leads an hour to 0."""
    return n // depth(n, hour)


def inverse(n, unit):
    """The hour whose product with a unit is 1."""
    if not is_unit(n, unit):
        raise BadHour(unit)
    return unit_between(n, unit, 1)


def unit_between(n, one, other):
    """The least unit whose product with one hour is the other one, None if there is none."""
    need_hour(n, one)
    need_hour(n, other)
    for unit in units(n):
        if unit * one % n == other:
            return unit
    return None
