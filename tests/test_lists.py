"""Tests of lists [7.1] and of counts [7.2]."""

from collections import Counter
from fractions import Fraction
from math import gcd

from hoursheets.annulled import annulled
from hoursheets.errors import BadCounts, BadSheet, BadWeighing, TooLong
from hoursheets.exchanges import class_counts
from hoursheets.lists import counts_of, is_counts, is_list, list_of, list_of_counts, sheet_of_counts
from tests.helper import (
    CLOCKS, SHAPES, Case, chance, chance_sheet, large_sheets, misshapen, no_sheets, no_weighings, odd_values,
    plain_class,
    plain_columns, plain_list, plain_weight, plain_word, rows_of, weighings_of,
)

ROUND = (0, 1, 2, 1)


def pairs_of(items):
    return tuple((item.numerator, item.denominator) for item in items)


def chance_counts(source, n, w, k, whole=False):
    """Counts with some columns and numbers; if they are whole, all are from 1 to 3."""
    columns = plain_columns(n, w, k)
    chosen = sorted(source.sample(columns, source.randrange(1, min(len(columns), 12) + 1)))
    found = []
    for column in chosen:
        number = Fraction(source.randrange(-9, 10) or 7, source.randrange(1, 9))
        if whole:
            number = Fraction(source.randrange(1, 4))
        found.append((column, (number.numerator, number.denominator)))
    return tuple(found)


def no_counts():
    """Values that are no counts for the weighing ROUND of the clock 4 and k = 2."""
    good = ((0, 1), (1, 1))
    return [thing for thing in odd_values() if thing != ()] + [
        good, [good], (list(good),), (good, good), (good, ((0, 1), (2, 1))), (((0, 2), (1, 1)), good),
        (((0, 3), (1, 1)),),
        (((3, 1), (1, 1)),), (((0, 0), (1, 1)),), (((1,), (1, 1)),), (((0, 0, 1), (1, 1)),), (((0, 4), (1, 1)),),
        (((0, -1), (1, 1)),), (((0, True), (1, 1)),), (((False, 1), (1, 1)),), (([0, 1], (1, 1)),), (((0, 1), (2, 2)),),
        (((0, 1), (0, 1)),), (((0, 1), (0, 2)),), (((0, 1), (1, 0)),), (((0, 1), (1, -1)),), (((0, 1), (-1, -1)),),
        (((0, 1), (4, 6)),), (((0, 1), 1),), (((0, 1), (1,)),), (((0, 1), (1, 1, 1)),), (((0, 1), [1, 1]),),
        (((0, 1), (True, 1)),), (((0, 1), (1, True)),), (((0, 1), ("1", 1)),), (((0, 1), (1, None)),), (((0, 1),),),
        (((0, 1), (1, 1), 0),), ((0, 1), (1, 1)), {good[0]: good[1]}, (None, good), (good, None), ((), good),
        (((0, 1), (10 ** 29, 10 ** 28)),), (((2, 0), (1, 1)), ((1, 3), (1, 1))), "counts", ("counts", (good,)),
    ]


class Lists(Case):
    def test_examples(self):
        self.run_examples("""
>>> from hoursheets.lists import counts_of, list_of, list_of_counts, sheet_of_counts
>>> w = (0, 1, 2, 1)
>>> counts = counts_of(4, w, ((1, 2),))
>>> [list_of(4, w, ((1, 2),)), counts, list_of_counts(4, w, 1, counts), sheet_of_counts(4, w, 1, counts)]
[(0, 3, 2, 3), (((1,), (1, 1)), ((2,), (1, 1))), ((0, 1), (3, 1), (2, 1), (3, 1)), ((1, 2),)]
""")

    def test_lists_of_sheets(self):
        source = chance(171)
        for n, k in SHAPES:
            for w in source.choices(weighings_of(n, 172), k=3):
                sheet = chance_sheet(source, n, k, source.randrange(1, 21))
                expected = tuple(plain_weight(w, plain_word(n, sheet, x)) for x in rows_of(n, k))
                self.same(list_of(n, w, sheet), expected)
                self.same(is_list(n, k, expected), True)

    def test_lists_of_zeros(self):
        for n, k in SHAPES:
            for length in (1, 20):
                self.same(list_of(n, (0,) + (7,) * (n - 1), ((0,) * length,) * k), (0,) * n ** k)

    def test_is_list(self):
        for n, k in SHAPES:
            good = (0,) + tuple(range(-3, n ** k - 4))
            self.same(is_list(n, k, good), True)
            for thing in (
                good[:-1], good + (0,), good[1:] + (0,), (1,) + good[1:], list(good), (False,) + good[1:], (),
            ):
                self.same(is_list(n, k, thing), thing == good[1:] + (0,) and thing[0] == 0)
            for item in (10 ** 12 - 1, -(10 ** 12) + 1, 0, 1):
                self.same(is_list(n, k, good[:-1] + (item,)), True)
            for item in (None, True, False, "1", (1,), [1], {}):
                self.same(is_list(n, k, good[:-1] + (item,)), False)
        for n, k in ((2, 1), (2, 6), (4, 1), (30, 6)):
            for thing in odd_values():
                right = repr(thing) == "(0, -1)" and (n, k) == (2, 1)
                self.same(is_list(n, k, thing), right)

    def test_wrong_arguments(self):
        for function in (list_of, counts_of):
            self.refuses(BadWeighing, function, {"n": 4, "sheet": ((1, 2),)}, "w", no_weighings())
            self.refuses(BadSheet, function, {"n": 4, "w": ROUND}, "sheet", no_sheets())
            self.raises(BadWeighing(0), function, 4, 0, None)
            self.raises(BadSheet(None), function, n=4, w=ROUND, sheet=None)


class CountsOfSheets(Case):
    def test_counts_of_sheets(self):
        for n, sheet in large_sheets(173, 60):
            for w in weighings_of(n, 174)[:6]:
                rows = tuple(row[:8] + row[:8] + (0,) for row in sheet)
                having = Counter(plain_class(n, w, column) for column in zip(*rows) if any(column))
                expected = tuple((column, (having[column], 1)) for column in sorted(having))
                self.same(counts_of(n, w, rows), expected)
                self.same(is_counts(n, w, len(sheet), expected), True)

    def test_counts_have_the_list_of_the_sheet(self):
        source = chance(175)
        for n, k in SHAPES:
            w = source.choice(weighings_of(n, 176))
            sheet = chance_sheet(source, n, k, source.randrange(1, 21))
            found = list_of_counts(n, w, k, counts_of(n, w, sheet))
            self.same(found, tuple((item, 1) for item in list_of(n, w, sheet)))

    def test_zeros_and_sheets_of_20_rows(self):
        self.same(counts_of(4, ROUND, ((0,) * 20,) * 2), ())
        self.same(counts_of(4, ROUND, ((0, 3, 0, 1),)), (((1,), (2, 1)),))
        sheet = annulled(6, ((0,) * 20,))
        w = (0, 1, 1, 1, 1, 1)
        self.same(counts_of(6, w, sheet), tuple((column, (many, 1)) for column, many in class_counts(6, w, sheet)))


class Counts(Case):
    def test_is_counts(self):
        source = chance(177)
        for n, k in SHAPES:
            for w in source.choices(weighings_of(n, 178), k=2):
                counts = chance_counts(source, n, w, k)
                self.same(is_counts(n, w, k, counts), True)
                self.same(is_counts(n, w, k, ()), True)
                self.same(is_counts(n, w, k, counts[::-1]), len(counts) == 1)
                self.same(is_counts(n, w, k, counts + counts[-1:]), False)
                self.same(is_counts(n, w, k % 6 + 1, counts), False)
                right = [(), counts, counts[1:], counts[:-1]]
                for thing in misshapen(("counts", counts)):
                    if isinstance(thing, tuple) and thing[:1] == ("counts",) and thing[1:] and thing[1] not in right:
                        self.same(is_counts(n, w, k, thing[1]), False)

    def test_columns_are_the_least_ones_of_their_classes(self):
        for n, k in [(n, k) for n, k in SHAPES if k <= 2]:
            for w in weighings_of(n, 179)[:5]:
                for column in rows_of(n, k):
                    right = any(column) and plain_class(n, w, column) == column
                    self.same(is_counts(n, w, k, ((column, (1, 1)),)), right)

    def test_numbers_are_fractions_other_than_0(self):
        for top in range(-6, 7):
            for bottom in range(-3, 7):
                right = top != 0 and bottom >= 1 and gcd(top, bottom) == 1
                self.same(is_counts(4, ROUND, 1, (((1,), (top, bottom)),)), right)
        for number in ((10 ** 29 + 1, 10 ** 29), (-(10 ** 29), 1), (1, 10 ** 29)):
            self.same(is_counts(4, ROUND, 1, (((1,), number),)), True)

    def test_is_counts_for_any_value(self):
        for thing in no_counts():
            self.same(is_counts(4, ROUND, 2, thing), False)
        self.same(is_counts(4, ROUND, 2, (((0, 1), (1, 1)), ((0, 2), (-1, 2)))), True)
        self.refuses(BadWeighing, is_counts, {"n": 4, "k": 1, "thing": ()}, "w", no_weighings())

    def test_lists_of_counts(self):
        source = chance(180)
        for n, k in SHAPES:
            for w in source.choices(weighings_of(n, 181), k=2):
                counts = chance_counts(source, n, w, k)
                self.same(list_of_counts(n, w, k, counts), pairs_of(plain_list(n, w, k, counts)))
        for n, k in SHAPES:
            self.same(list_of_counts(n, (0,) + (1,) * (n - 1), k, ()), ((0, 1),) * n ** k)

    def test_fractions_of_lists_have_no_common_divisor(self):
        self.same(list_of_counts(4, ROUND, 1, (((1,), (1, 2)), ((2,), (1, 4)))), ((0, 1), (1, 1), (1, 1), (1, 1)))
        self.same(list_of_counts(4, ROUND, 1, (((1,), (-1, 6)),)), ((0, 1), (-1, 6), (-1, 3), (-1, 6)))
        self.same(list_of_counts(4, ROUND, 1, (((1,), (1, 2)), ((2,), (-1, 2)))), ((0, 1), (-1, 2), (1, 1), (-1, 2)))
        found = list_of_counts(2, (0, 10 ** 6), 1, (((1,), (10 ** 29 + 1, 10 ** 29)),))
        self.same(found, ((0, 1), (10 ** 29 + 1, 10 ** 23)))

    def test_wrong_counts(self):
        for function in (list_of_counts, sheet_of_counts):
            good = {"n": 4, "w": ROUND, "k": 2, "counts": (((0, 1), (1, 1)),)}
            self.refuses(BadWeighing, function, good, "w", no_weighings())
            self.refuses(BadCounts, function, good, "counts", no_counts())
            self.raises(BadWeighing(0), function, 4, 0, 2, None)
            self.raises(BadCounts(None), function, 4, ROUND, 2, None)
            # 3 keeps the one weighing, and not the other one.
            self.raises(BadCounts((((0, 3), (1, 1)),)), function, **{**good, "counts": (((0, 3), (1, 1)),)})
        self.same(list_of_counts(4, (0, 1, 2, 3), 1, (((3,), (1, 1)),)), ((0, 1), (3, 1), (2, 1), (1, 1)))


class SheetsOfCounts(Case):
    def test_there_and_back(self):
        source = chance(182)
        for n, k in SHAPES:
            for w in source.choices(weighings_of(n, 183), k=2):
                counts = chance_counts(source, n, w, k, whole=True)
                columns = [column for column, number in counts for _ in range(number[0])]
                if len(columns) > 20:
                    self.raises(TooLong(), sheet_of_counts, n, w, k, counts)
                    continue
                sheet = sheet_of_counts(n, w, k, counts)
                self.same(sheet, tuple(zip(*columns)))
                self.same(counts_of(n, w, sheet), counts)

    def test_20_and_21_columns(self):
        for many in (1, 20):
            self.same(sheet_of_counts(4, ROUND, 2, (((1, 2), (many, 1)),)), ((1,) * many, (2,) * many))
        found = sheet_of_counts(4, ROUND, 1, (((1,), (7, 1)), ((2,), (13, 1))))
        self.same(found, ((1,) * 7 + (2,) * 13,))
        for numbers in ((21, 1), (7, 14), (20, 1), (10 ** 29, 1), (1, 10 ** 39)):
            counts = tuple(((column,), (number, 1)) for column, number in zip((1, 2), numbers))
            self.raises(TooLong(), sheet_of_counts, 4, ROUND, 1, counts)
        for n in CLOCKS:
            w = (0,) + tuple(range(1, n))
            counts = tuple(((hour,), (1, 1)) for hour in range(1, n))
            if n <= 21:
                self.same(sheet_of_counts(n=n, w=w, k=1, counts=counts), (tuple(range(1, n)),))
            else:
                self.raises(TooLong(), sheet_of_counts, n, w, 1, counts)

    def test_counts_of_no_sheet(self):
        good = ((1,), (1, 1))
        for counts in (
            (), (((1,), (1, 2)),), (((1,), (-1, 1)),), (good, ((2,), (-1, 1))), (good, ((2,), (3, 2))),
            (((1,), (-1, 2)), ((2,), (1, 1))),
            (((1,), (21, 1)), ((2,), (-1, 1))), (((1,), (21, 1)), ((2,), (1, 2))),
        ):
            self.same(is_counts(4, ROUND, 1, counts), True)
            self.raises(BadCounts(counts), sheet_of_counts, 4, ROUND, 1, counts)
