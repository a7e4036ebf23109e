"""Counts of words by the depths of their hours [11.1], turned counts [11.2], and counts by zeros [11.3].

A count is a polynomial here: a dict of powers, one for each letter, with the number of each. Turning it puts
a form, which is a sum of multiples of the letters, in the place of each letter.
"""

from math import gcd

from hoursheets.clocks import divisors, is_whole
from hoursheets.errors import BadCounts
from hoursheets.reduced import words_of
from hoursheets.rows import MOST_HOURS, need_row
from hoursheets.sums import depth_table
from hoursheets.wholes import fraction, how_often, is_wholes


def counts_by_depth(n, depths, row):
    """How many hours of a row that is known to be one have each of some depths."""
    having = [gcd(hour, n) for hour in row]
    return tuple([having.count(depth) for depth in depths])


def depth_counts(n, row):
    """The tuple that tells for each divisor of n how many hours of a row have this depth."""
    need_row(n, row)
    return counts_by_depth(n, divisors(n), row)


def count_of(n, sheet):
    """The ascending tuple of pairs (depth counts, how many words have them)."""
    depths = divisors(n)
    return how_often([counts_by_depth(n, depths, word) for word in words_of(n, sheet)])


def zero_counts(n, sheet):
    """The tuple that tells for each number from 0 to the length how many words have so many hours that are not 0."""
    filled = [len(word) - word.count(0) for word in words_of(n, sheet)]
    return tuple([filled.count(many) for many in range(len(sheet[0]) + 1)])


def plus_terms(one, other):
    """The sum of two polynomials."""
    found = {powers: one[powers] for powers in one}
    for powers in other:
        found[powers] = found.get(powers, 0) + other[powers]
    return found


def times_form(terms, form):
    """The product of a polynomial and a form."""
    found = {}
    for powers, number in terms.items():
        for at, factor in enumerate(form):
            higher = powers[:at] + (powers[at] + 1,) + powers[at + 1:]
            found[higher] = found.get(higher, 0) + factor * number
    return found


def put_in(forms, at, terms):
    """What comes of a polynomial in the letters from a number on if forms stand in their places."""
    if at == len(forms):
        return {(0,) * len(forms): terms[()]}
    by_power = {}
    for powers, number in terms.items():
        group = by_power.setdefault(powers[0], {})
        group[powers[1:]] = number
    # W. Horner's way: the form is multiplied once for each power, and not once for each term.
    found = {}
    for power in reversed(range(max(by_power) + 1)):
        found = times_form(found, forms[at])
        if power in by_power:
            found = plus_terms(found, put_in(forms, at + 1, by_power[power]))
    return found


def turned(forms, terms):
    """A dict of powers and fractions: forms are put into a polynomial, which is divided by the sum of its numbers."""
    total = sum(terms.values())
    found = put_in(forms, 0, terms)
    return {powers: fraction(found[powers], total) for powers in found}


def is_pair(size, thing):
    """Whether any value is a pair of so many integers from 0 on, not all 0, and an integer that is not 0."""
    if not isinstance(thing, tuple) or len(thing) != 2 or not is_wholes(thing[0], size):
        return False
    return min(thing[0]) >= 0 and any(thing[0]) and is_whole(thing[1]) and thing[1] != 0


def is_count(n, thing):
    """Whether any value has the form of a count, with numbers that do not add up to 0."""
    size = len(divisors(n))
    if not isinstance(thing, tuple) or not all(is_pair(size, pair) for pair in thing):
        return False
    having = [pair[0] for pair in thing]
    if having != sorted(set(having)) or len({sum(powers) for powers in having}) != 1:
        return False
    return sum(pair[1] for pair in thing) != 0


def turned_count(n, count):
    """The turned count, as an ascending tuple of pairs (depth counts, fraction), without those with zero."""
    if not is_count(n, count):
        raise BadCounts(count)
    found = turned(depth_table(n), dict(count))
    return tuple([(powers, found[powers]) for powers in sorted(found) if found[powers][0] != 0])


def bar_of(n, count):
    """The least depth counts whose number in the turned count is below 0 or no integer; None if there are none."""
    for powers, (top, bottom) in turned_count(n, count):
        if top < 0 or bottom != 1:
            return powers
    return None


def is_zeros(thing):
    """Whether any value is a tuple of 2 to 21 integers whose sum is not 0."""
    if not isinstance(thing, tuple) or not 2 <= len(thing) <= MOST_HOURS + 1:
        return False
    return is_wholes(thing, len(thing)) and sum(thing) != 0


def turned_zeros(n, counts):
    """The turned tuple of a tuple of integers, as fractions."""
    if not is_zeros(counts):
        raise BadCounts(counts)
    length = len(counts) - 1
    # The numbers of hours that are 0, and not 0, are powers of two letters.
    forms = ((1, n - 1), (1, -1))
    found = turned(forms, {(length - many, many): number for many, number in enumerate(counts)})
    return tuple([found[(length - many, many)] for many in range(length + 1)])
