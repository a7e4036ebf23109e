"""Sheets whose words, but that of zeros, all weigh alike [8.1], with certificates [8.2]."""

from hoursheets.certificates import is_kind
from hoursheets.clocks import is_whole
from hoursheets.lists import is_counts
from hoursheets.readback import read_back
from hoursheets.wholes import common_multiple, power


def level_counts(n, w, k):
    """The counts that have the list with 1 at all multipliers but the first ones."""
    return read_back(n, w, k, (0,) + (1,) * (power(n, k) - 1))


def certificate_by(counts):
    """The certificate with the least level counts, or with a column whose number is below 0, by the level counts."""
    for column, number in counts:
        if number[0] < 0:
            return ("column", column, number)
    least = common_multiple([number[1] for column, number in counts])
    whole = [(column, (top * (least // bottom), 1)) for column, (top, bottom) in counts]
    return ("level", least, tuple(whole))


def judge_level(n, w, k):
    """A certificate with the least level counts, or that there is no such sheet."""
    return certificate_by(level_counts(n, w, k))


def level_holds(n, w, k, thing):
    """Whether any value is a certificate of one of the two kinds."""
    counts = level_counts(n, w, k)
    if is_kind(thing, "level", 3):
        return is_whole(thing[1]) and is_counts(n, w, k, thing[2]) and thing == certificate_by(counts)
    if is_kind(thing, "column", 3) and is_counts(n, w, k, (thing[1:],)):
        return thing[2][0] < 0 and thing[1:] in counts
    return False


def level_length(n, w, k):
    """How many columns the least level counts have together; None if there is no such sheet."""
    certificate = judge_level(n, w, k)
    if certificate[0] == "column":
        return None
    return sum(number[0] for column, number in certificate[2])
