"""Reduced sheets [2.1], one for all sheets with the same words, and the orders of words [2.3]."""

from hoursheets.clocks import divisors
from hoursheets.leads import lead_of, reduced_rows, sheet_behind
from hoursheets.rows import is_sheet, multiple, need_sheet, plus_multiple, zero_row


def reduced(n, sheet):
    """The reduced sheet with the same words."""
    need_sheet(n, sheet)
    return sheet_behind(n, sheet, 0)


def is_reduced(n, thing):
    """Whether any value is a reduced sheet."""
    return is_sheet(n, thing) and reduced(n, thing) == thing


def many_words(n, sheet):
    """How many unlike words there are."""
    need_sheet(n, sheet)
    many = 1
    for row in reduced_rows(n, sheet):
        many *= n // row[lead_of(row)]
    return many


def words_of(n, sheet):
    """The ascending tuple of all words."""
    need_sheet(n, sheet)
    words = [zero_row(len(sheet[0]))]
    for row in reduced_rows(n, sheet):
        many = n // row[lead_of(row)]
        words = [plus_multiple(n, word, number, row) for word in words for number in range(many)]
    return tuple(sorted(words))


def orders_of_words(n, sheet):
    """The ascending tuple of pairs (order, how many words have it)."""
    many = many_words(n, sheet)
    having = {}
    for t in divisors(n):
        dividing = many // many_words(n, tuple([multiple(n, t, row) for row in sheet]))
        having[t] = dividing - sum(having[less] for less in having if t % less == 0)
    return tuple((t, having[t]) for t in divisors(n) if having[t] > 0)


def same_words(n, one, other):
    """Whether two sheets, perhaps of unlike lengths, have the same words."""
    return reduced(n, one) == reduced(n, other)
