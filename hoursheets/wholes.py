"""Integers and fractions [0.2], powers, tuples of integers, and how often things stand among others."""

from math import gcd, lcm

from hoursheets.clocks import is_whole


def common_divisor(numbers):
    """The greatest integer that divides all of some integers; 0 if they are all 0."""
    common = 0
    for number in numbers:
        common = gcd(common, number)
    return common


def common_multiple(numbers):
    """The least integer from 1 on that all of some integers from 1 on divide."""
    common = 1
    for number in numbers:
        common = lcm(common, number)
    return common


def power(number, times):
    """The product of so many times the same number."""
    made = 1
    for _ in range(times):
        made *= number
    return made


def is_wholes(thing, many):
    """Whether any value is a tuple of so many integers."""
    return isinstance(thing, tuple) and len(thing) == many and all(is_whole(number) for number in thing)


def fraction(top, bottom):
    """The fraction without common divisors of a top and a bottom other than 0."""
    common = gcd(top, bottom)
    if bottom < 0:
        common = -common
    return (top // common, bottom // common)


def is_fraction(thing):
    """Whether any value is a fraction whose top and bottom have no common divisor but 1."""
    return is_wholes(thing, 2) and thing[1] >= 1 and gcd(thing[0], thing[1]) == 1


def how_often(things):
    """The ascending tuple of pairs (thing, how often it stands among things)."""
    having = {}
    for thing in things:
        having[thing] = having.get(thing, 0) + 1
    return tuple(sorted(having.items()))
