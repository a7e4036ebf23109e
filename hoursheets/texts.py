"""Texts of houses [14.5], read back."""

from hoursheets.clocks import is_clock
from hoursheets.errors import BadText
from hoursheets.houses import house_with
from hoursheets.judging import HOLDS, is_name, is_promise, judge
from hoursheets.rows import is_sheet
from hoursheets.weighings import is_weighing

MOST_DIGITS = 10


def is_number(word):
    """Whether a word is an integer from 0 on as Python writes it, with as many digits as some number can have."""
    if not 1 <= len(word) <= MOST_DIGITS or not all(sign in "0123456789" for sign in word):
        return False
    return word == "0" or word[0] != "0"


def numbers_behind(first, words):
    """The tuple of the integers behind a first word; None if a line does not consist of these."""
    if words[:1] != [first] or not all(is_number(word) for word in words[1:]):
        return None
    return tuple([int(word) for word in words[1:]])


def read_clock(words):
    """The clock that the first line tells."""
    numbers = numbers_behind("clock", words)
    if numbers is None or len(numbers) != 1 or not is_clock(numbers[0]):
        raise BadText(1)
    return numbers[0]


def read_weights(n, words):
    """The weighing that the second line tells."""
    weights = numbers_behind("weights", words)
    if not is_weighing(n, weights):
        raise BadText(2)
    return weights


def read_rows(n, lines, at):
    """The sheet that the rows from a line on tell."""
    sheet = ()
    while not sheet or lines[at][:1] == ["row"]:
        longer = sheet + (numbers_behind("row", lines[at]),)
        if not is_sheet(n, longer):
            raise BadText(at + 1)
        sheet = longer
        at += 1
    return sheet


def read_sheets(n, lines, at):
    """A dict of the sheets by their names that the lines from one on tell, and the number of the line behind them."""
    sheets = {}
    last = ""
    while lines[at][:1] == ["sheet"]:
        name = lines[at][-1]
        if len(lines[at]) != 2 or not is_name(name) or name <= last:
            raise BadText(at + 1)
        sheets[name] = read_rows(n, lines, at + 1)
        last = name
        at += 1 + len(sheets[name])
    return sheets, at


def promise_by(words):
    """The promise that a line tells, or some value that is none."""
    if words[:1] != ["promise"]:
        return None
    if words[1:2] == ["least"] and is_number(words[-1]):
        return tuple(words[1:-1]) + (int(words[-1]),)
    return tuple(words[1:])


def read_promises(n, w, sheets, lines, at):
    """The tuple of the promises that the lines from one on tell, up to the last one."""
    promises = ()
    while lines[at]:
        promise = promise_by(lines[at])
        if not is_promise(sheets, promise) or promise in promises or judge(n, w, sheets, promise) != HOLDS:
            raise BadText(at + 1)
        promises = promises + (promise,)
        at += 1
    return promises


def read_house(text):
    """A house with a text, and with no deeds to undo or redo."""
    if not isinstance(text, str):
        raise BadText(0)
    # No line of a text has no words, so the one that is put behind the last one is wrong wherever it is read.
    lines = [line.split(" ") for line in text.split("\n")] + [[]]
    n = read_clock(lines[0])
    w = read_weights(n, lines[1])
    sheets, at = read_sheets(n, lines, 2)
    promises = read_promises(n, w, sheets, lines, at)
    return house_with(n, w, tuple(sheets.items()), promises)
