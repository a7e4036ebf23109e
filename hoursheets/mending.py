"""Words that are told in spite of errors: nearest words [13.1], shelves [13.2], and mending [13.3]."""

from hoursheets.certificates import is_kind
from hoursheets.clocks import is_whole
from hoursheets.leads import least_row, reduced_rows
from hoursheets.reduced import words_of
from hoursheets.rows import is_row, need_row_of, need_sheet, plus_multiple
from hoursheets.weighings import need_weighing, weigh
from hoursheets.within import is_within


def errors_of_words(n, w, sheet, row):
    """The list of triples (weight, error, word) of all words for a row, ascending by the words."""
    need_weighing(n, w)
    need_row_of(n, sheet, row)
    found = []
    for word in words_of(n, sheet):
        error = plus_multiple(n, row, -1, word)
        found.append((weigh(w, error), error, word))
    return found


def nearest(n, w, sheet, row):
    """The least weight of an error, and the ascending tuple of all words with such an error."""
    found = errors_of_words(n, w, sheet, row)
    least = min(found)[0]
    return (least, tuple([word for weight, error, word in found if weight == least]))


def lightest_on_shelf(n, w, sheet, row):
    """The least of the rows of the least weight on the shelf of a row."""
    # The row less each word is the row plus each word, as the words times -1 are the words.
    return min(errors_of_words(n, w, sheet, row))[1]


def light_rows(n, w, length, t):
    """The ascending list of the rows of a length that weigh at most t."""
    found = [((), 0)]
    for _ in range(length):
        found = [
            (row + (hour,), weight + w[hour])
            for row, weight in found
            for hour in range(n)
            if weight + w[hour] <= t
        ]
    return [row for row, weight in found]


def judge_mending(n, w, sheet, t):
    """A certificate that a sheet mends t, or that two rows clash."""
    need_weighing(n, w)
    need_sheet(n, sheet)
    leading = reduced_rows(n, sheet)
    on_shelf = {}
    for row in light_rows(n, w, len(sheet[0]), t):
        shelf = least_row(n, leading, row)
        if shelf in on_shelf:
            return ("clash", on_shelf[shelf], row)
        on_shelf[shelf] = row
    return ("mends", len(on_shelf))


def is_clash(n, w, sheet, t, one, other):
    """Whether any values are two unlike rows that weigh at most t and whose difference is a word."""
    for row in (one, other):
        if not is_row(n, row) or len(row) != len(sheet[0]) or weigh(w, row) > t:
            return False
    return one != other and is_within(n, sheet, plus_multiple(n, one, -1, other))


def mending_holds(n, w, sheet, t, thing):
    """Whether any value is a certificate of one of the two kinds."""
    need_weighing(n, w)
    need_sheet(n, sheet)
    if is_kind(thing, "clash", 3):
        return is_clash(n, w, sheet, t, thing[1], thing[2])
    if is_kind(thing, "mends", 2) and is_whole(thing[1]):
        return judge_mending(n, w, sheet, t) == thing
    return False


def mended(n, w, sheet, row, t):
    """The word whose error weighs at most t, if there is exactly one; None otherwise."""
    words = [word for weight, error, word in errors_of_words(n, w, sheet, row) if weight <= t]
    return words[0] if len(words) == 1 else None
