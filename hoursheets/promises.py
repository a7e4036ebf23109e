"""Promises of a house [14.2], made or not, and certificates against them [14.3]."""

from hoursheets.errors import BadPromise
from hoursheets.judging import is_against, is_promise, judge


def sheets_promised(house, promise):
    """The named sheets of a house as a dict; raises BadPromise for any value that is no promise with these names."""
    sheets = dict(house.names())
    if not is_promise(sheets, promise):
        raise BadPromise(promise)
    return sheets


def judge_promise(house, promise):
    """("holds",), or a certificate against a promise."""
    sheets = sheets_promised(house, promise)
    return judge(house.n, house.weighing(), sheets, promise)


def against_holds(house, promise, thing):
    """Whether any value is a certificate against a promise."""
    sheets = sheets_promised(house, promise)
    return is_against(house.n, house.weighing(), sheets, promise, thing)
