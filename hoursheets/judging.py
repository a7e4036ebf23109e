"""Promises about named sheets [14.2]: whether they hold, and certificates against them [14.3].

Houses and promises both ask here, so that neither file needs the other one. Named sheets are a dict here.
"""

from hoursheets.annulled import is_annulled
from hoursheets.certificates import is_kind
from hoursheets.clocks import is_whole
from hoursheets.errors import Broken
from hoursheets.likeness import alike_holds, judge_alike
from hoursheets.maps import is_sound, judge_sound, sound_holds, unkept_word
from hoursheets.multipliers import multipliers_of, words_in_order
from hoursheets.rows import is_multipliers, is_place, product_of, word_of
from hoursheets.weighings import weigh
from hoursheets.wholes import is_wholes
from hoursheets.within import judge_within

HOLDS = ("holds",)
LONGEST_NAME = 8
MOST_PROMISED = 10 ** 9


def is_name(thing):
    """Whether any value is a string of 1 to 8 small letters."""
    return isinstance(thing, str) and 1 <= len(thing) <= LONGEST_NAME and all("a" <= sign <= "z" for sign in thing)


def is_name_of(sheets, thing):
    """Whether any value is one of the names of some named sheets."""
    return is_name(thing) and thing in sheets


def is_promise(sheets, thing):
    """Whether any value is a promise with names of some named sheets."""
    if not isinstance(thing, tuple) or len(thing) != 3 or not is_name_of(sheets, thing[1]):
        return False
    kind, one, other = thing
    if kind == "least":
        return is_whole(other) and 1 <= other <= MOST_PROMISED
    if not is_name_of(sheets, other):
        return False
    if kind == "alike":
        return one < other
    return kind in ("kept", "within") and one != other


def judge_likeness(n, w, one, other):
    """What there is against a promise that two sheets are alike."""
    if len(one[0]) != len(other[0]):
        return ("lengths", len(one[0]), len(other[0]))
    found = judge_alike(n, w, one, other)
    return found if found[0] == "unlike" else HOLDS


def judge_kept(n, w, one, other):
    """What there is against a promise that the other sheet is a sound map of the one that keeps the weighing."""
    if len(one) != len(other):
        return ("rows", len(one), len(other))
    found = judge_sound(n, one, other)
    if found[0] == "clash":
        return found
    unkept = unkept_word(n, w, one, other)
    return HOLDS if unkept is None else unkept


def judge_words(n, w, one, other):
    """What there is against a promise that all words of the one sheet are words of the other one."""
    if len(one[0]) != len(other[0]):
        return ("lengths", len(one[0]), len(other[0]))
    for at, row in enumerate(one):
        kind, proof = judge_within(n, other, row)
        if kind == "barred":
            return ("barred", at, proof)
    return HOLDS


def judge_least(n, w, sheet, weight):
    """What there is against a promise that words with an hour other than 0 weigh at least so much."""
    for multipliers, word in zip(multipliers_of(n, len(sheet)), words_in_order(n, sheet)):
        if any(word) and weigh(w, word) < weight:
            return ("light", multipliers)
    return HOLDS


JUDGES = {"alike": judge_likeness, "kept": judge_kept, "within": judge_words, "least": judge_least}


def judge(n, w, sheets, promise):
    """That a promise holds, or a certificate against it."""
    kind, one, other = promise
    judge_kind = JUDGES[kind]
    return judge_kind(n, w, sheets[one], other if kind == "least" else sheets[other])


def need_kept(n, w, sheets, promises):
    """Raises Broken with the first of some promises that does not hold."""
    for promise in promises:
        found = judge(n, w, sheets, promise)
        if found != HOLDS:
            raise Broken(promise, found)


def tells_both(thing, kind, one, other):
    """Whether any value is a certificate of a kind that tells two integers."""
    return is_kind(thing, kind, 3) and is_wholes(thing[1:], 2) and thing[1:] == (one, other)


def is_against_likeness(n, w, one, other, thing):
    """Whether any value is a certificate against a promise that two sheets are alike."""
    if len(one[0]) != len(other[0]):
        return tells_both(thing, "lengths", len(one[0]), len(other[0]))
    return is_kind(thing, "unlike", 3) and alike_holds(n, w, one, other, thing)


def is_against_kept(n, w, one, other, thing):
    """Whether any value is a certificate against a promise that a map is sound and keeps the weighing."""
    if len(one) != len(other):
        return tells_both(thing, "rows", len(one), len(other))
    if is_kind(thing, "clash", 2):
        return sound_holds(n, one, other, thing)
    if is_kind(thing, "word", 2) and is_multipliers(n, one, thing[1]) and is_sound(n, one, other):
        return weigh(w, word_of(n, one, thing[1])) != weigh(w, word_of(n, other, thing[1]))
    return False


def is_against_words(n, w, one, other, thing):
    """Whether any value is a certificate against a promise that all words of one sheet are words of another one."""
    if len(one[0]) != len(other[0]):
        return tells_both(thing, "lengths", len(one[0]), len(other[0]))
    if is_kind(thing, "barred", 3) and is_place(one, thing[1]) and is_annulled(n, other, thing[2]):
        return product_of(n, thing[2], one[thing[1]]) != 0
    return False


def is_against_least(n, w, sheet, weight, thing):
    """Whether any value is a certificate against a promise that words weigh at least so much."""
    if not is_kind(thing, "light", 2) or not is_multipliers(n, sheet, thing[1]):
        return False
    word = word_of(n, sheet, thing[1])
    return any(word) and weigh(w, word) < weight


CHECKS = {
    "alike": is_against_likeness,
    "kept": is_against_kept,
    "within": is_against_words,
    "least": is_against_least,
}


def is_against(n, w, sheets, promise, thing):
    """Whether any value is a certificate against a promise."""
    kind, one, other = promise
    check_kind = CHECKS[kind]
    return check_kind(n, w, sheets[one], other if kind == "least" else sheets[other], thing)
