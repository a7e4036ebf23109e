"""Weights of words [5.1], tame weighings [5.2], and all weights together [5.3]."""

from hoursheets.reduced import many_words, words_of
from hoursheets.rows import columns_of, need_like_rows, plus_multiple
from hoursheets.weighings import need_weighing, weigh
from hoursheets.wholes import common_divisor, how_often


def weighed_words(n, w, sheet):
    """The list of pairs (weight, word) of all words, ascending by the words."""
    need_weighing(n, w)
    return [(weigh(w, word), word) for word in words_of(n, sheet)]


def many_of_weight(n, w, sheet):
    """The ascending tuple of pairs (weight, how many words have it)."""
    return how_often([weight for weight, word in weighed_words(n, w, sheet)])


def lightest_word(n, w, sheet):
    """The least pair (weight, word) of a word with an hour other than 0; None if there is none."""
    # The least word is the row of hours 0.
    others = weighed_words(n, w, sheet)[1:]
    return min(others) if others else None


def least_weight(n, w, sheet):
    """The least weight of the words with an hour other than 0; None if there is none."""
    found = lightest_word(n, w, sheet)
    return None if found is None else found[0]


def lightest(n, w, sheet):
    """The least of the words with the least weight; None if there is just one word."""
    found = lightest_word(n, w, sheet)
    return None if found is None else found[1]


def total_weight(n, w, sheet):
    """The sum of the weights of all words, however many there are."""
    need_weighing(n, w)
    many = many_words(n, sheet)
    total = 0
    for column in columns_of(n, sheet):
        # The hours of the words at this position are the multiples of this, each equally often.
        step = common_divisor((n,) + column)
        total += many // (n // step) * sum(w[hour] for hour in range(0, n, step))
    return total


def distance(n, w, one, other):
    """What the other row less the one weighs."""
    need_weighing(n, w)
    need_like_rows(n, one, other)
    return weigh(w, plus_multiple(n, other, -1, one))


def untame_pair(n, w):
    """The least pair of hours whose sum weighs more than the two together; None if there is none."""
    need_weighing(n, w)
    for one in range(n):
        for other in range(n):
            if w[(one + other) % n] > w[one] + w[other]:
                return (one, other)
    return None


def is_tame(n, w):
    """Whether no sum of two hours weighs more than the two together."""
    return untame_pair(n, w) is None


def is_mirrored(n, w):
    """Whether each hour weighs what its multiple by -1 does."""
    need_weighing(n, w)
    return all(w[-hour % n] == w[hour] for hour in range(n))
