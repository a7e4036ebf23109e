"""Sheets that are alike up to exchanges [10.1], and their least guises [10.2]."""

from itertools import permutations

from hoursheets.certificates import is_kind
from hoursheets.exchanges import is_exchange, sheet_led_by
from hoursheets.multipliers import tuples_over
from hoursheets.reduced import reduced, same_words
from hoursheets.rows import is_sheet, need_like_sheets
from hoursheets.weighings import keepers, need_weighing


def exchanges_over(kept, length):
    """The exchanges of a length whose first factor is 1."""
    # The words times a keeper are the words again, so all other exchanges lead to no other guises.
    factors = [(1,) + rest for rest in tuples_over(kept, length - 1)]
    return [(places, own) for places in permutations(range(length)) for own in factors]


def exchanges_by_guise(n, w, sheet):
    """A dict of all guises of a sheet, each with an exchange that leads the sheet to a sheet with its words."""
    kept = keepers(n, w)
    start = reduced(n, sheet)
    found = {}
    for exchange in exchanges_over(kept, len(sheet[0])):
        found.setdefault(reduced(n, sheet_led_by(n, exchange, start)), exchange)
    return found


def least_guise(n, w, sheet):
    """The least guise of a sheet, and an exchange that leads the sheet to a sheet with its words."""
    found = exchanges_by_guise(n, w, sheet)
    guise = min(found)
    return (guise, found[guise])


def many_guises(n, w, sheet):
    """How many guises a sheet has."""
    return len(exchanges_by_guise(n, w, sheet))


def guises(n, w, sheet):
    """The ascending tuple of all guises of a sheet."""
    return tuple(sorted(exchanges_by_guise(n, w, sheet)))


def need_weighed_sheets(n, w, one, other):
    """Raises BadWeighing, then BadSheet with the first value that is no sheet, then OtherLengths."""
    need_weighing(n, w)
    need_like_sheets(n, one, other)


def exchange_between(n, w, one, other):
    """An exchange that leads the one sheet to a sheet with the words of the other one; None if there is none."""
    start, goal = reduced(n, one), reduced(n, other)
    for exchange in exchanges_over(keepers(n, w), len(one[0])):
        if reduced(n, sheet_led_by(n, exchange, start)) == goal:
            return exchange
    return None


def judge_alike(n, w, one, other):
    """A certificate that two sheets are alike, or that their least guises are unlike."""
    need_weighed_sheets(n, w, one, other)
    exchange = exchange_between(n, w, one, other)
    if exchange is not None:
        return ("alike", exchange)
    return ("unlike", least_guise(n, w, one)[0], least_guise(n, w, other)[0])


def is_leading(n, w, one, other, exchange):
    """Whether any value is an exchange that leads the one sheet to a sheet with the words of the other one."""
    if not is_exchange(n, w, exchange) or len(exchange[0]) != len(one[0]):
        return False
    return same_words(n, sheet_led_by(n, exchange, one), other)


def alike_holds(n, w, one, other, thing):
    """Whether any value is a certificate of one of the two kinds."""
    need_weighed_sheets(n, w, one, other)
    if is_kind(thing, "alike", 2):
        return is_leading(n, w, one, other, thing[1])
    if is_kind(thing, "unlike", 3) and is_sheet(n, thing[1]) and is_sheet(n, thing[2]):
        least = (least_guise(n, w, one)[0], least_guise(n, w, other)[0])
        return thing[1:] == least and least[0] != least[1]
    return False


def are_alike(n, w, one, other):
    """Whether some exchange leads the one sheet to a sheet with the words of the other one."""
    need_weighed_sheets(n, w, one, other)
    return exchange_between(n, w, one, other) is not None
