"""Tests of depth counts [11.1], turned counts [11.2], counts by zeros [11.3] and counts of no sheet [11.4]."""

import itertools
from fractions import Fraction
from math import comb, gcd

from hoursheets.annulled import annulled
from hoursheets.counts import bar_of, count_of, depth_counts, turned_count, turned_zeros, zero_counts
from hoursheets.errors import BadCounts, BadRow, BadSheet
from hoursheets.reduced import many_words
from tests.helper import (
    CLOCKS, Case, chance, chance_sheet, no_rows, no_sheets, odd_values, plain_divisors, plain_sign, plain_words,
    small_sheets,
)


def plain_depths(n, row):
    depths = [gcd(hour, n) for hour in row]
    return tuple(depths.count(d) for d in plain_divisors(n))


def plain_count(n, sheet):
    found = {}
    for word in plain_words(n, sheet):
        depths = plain_depths(n, word)
        found[depths] = found.get(depths, 0) + 1
    return tuple(sorted(found.items()))


def plain_depth_table(n):
    """The depth table, by the sums of [1.2]."""
    ds = plain_divisors(n)
    return [[sum(e * plain_sign(n // d // e) for e in plain_divisors(n // d) if b % e == 0) for d in ds] for b in ds]


def value_at(pairs, letters):
    """The polynomial of pairs (powers, number) at some numbers in the place of the letters."""
    total = Fraction(0)
    for powers, number in pairs:
        term = Fraction(*number) if isinstance(number, tuple) else Fraction(number)
        for power, letter in zip(powers, letters):
            term *= letter ** power
        total += term
    return total


def powers_of(size, total):
    """All tuples of so many integers from 0 on with a sum, ascending."""
    if size == 1:
        return [(total,)]
    return [(first,) + rest for first in range(total + 1) for rest in powers_of(size - 1, total - first)]


def drawn_count(source, n, length, many, most):
    """A count of a form that is right, whose numbers may be below 0."""
    powers = powers_of(len(plain_divisors(n)), length)
    chosen = sorted(source.sample(powers, min(many, len(powers))))
    numbers = [0]
    while sum(numbers) == 0 or 0 in numbers:
        numbers = [source.randrange(-most, most + 1) for _ in chosen]
    return tuple(zip(chosen, numbers))


def plain_turned_zeros(n, counts):
    """The turned tuple by the sums of [11.3]."""
    m = len(counts) - 1

    def b(x, y):
        return comb(x, y) if 0 <= y <= x else 0

    found = []
    for j in range(m + 1):
        top = sum(
            counts[i] * (-1) ** k * (n - 1) ** (j - k) * b(i, k) * b(m - i, j - k)
            for i in range(m + 1) for k in range(j + 1)
        )
        found.append(Fraction(top, sum(counts)))
    return tuple((number.numerator, number.denominator) for number in found)


def longest(n):
    return 8 if len(plain_divisors(n)) <= 4 else 5


def whole(pairs):
    """Pairs (powers, fraction) whose fractions are integers, as a count; None if some are none."""
    if any(bottom != 1 for powers, (top, bottom) in pairs):
        return None
    return tuple((powers, top) for powers, (top, bottom) in pairs)


class Counting(Case):
    def test_examples(self):
        self.run_examples("""
>>> from hoursheets.counts import bar_of, count_of, depth_counts, turned_count, turned_zeros, zero_counts
>>> sheet = ((2, 1),)
>>> count = count_of(4, sheet)
>>> [depth_counts(4, (2, 1)), count, turned_count(4, count), zero_counts(4, sheet), turned_zeros(4, (1, 1, 2))]
[(1, 1, 0), (((0, 0, 2), 1), ((0, 1, 1), 1), ((1, 1, 0), 2)), (((0, 0, 2), (1, 1)), ((0, 1, 1), (1, 1)), ((1, 1, 0), (2, 1))), (1, 1, 2), ((1, 1), (1, 1), (2, 1))]
>>> [turned_count(2, (((0, 1), 1), ((1, 0), 2))), bar_of(2, (((0, 1), 1), ((1, 0), 2))), bar_of(4, count)]
[(((0, 1), (1, 1)), ((1, 0), (-1, 3))), (1, 0), None]
""")

    def test_depth_counts_on_each_clock(self):
        source = chance(401)
        for n in CLOCKS:
            for row in [(0,), (1,), (n - 1,) * 20, tuple(range(n))[:20], tuple(source.choices(range(n), k=13))]:
                self.same(depth_counts(n, row), plain_depths(n, row))
            for hour in range(n):
                self.same(depth_counts(n, (hour,)), tuple(int(d == gcd(hour, n)) for d in plain_divisors(n)))

    def test_counts_of_small_sheets(self):
        for n, sheet in small_sheets(402, 150):
            self.same(count_of(n, sheet), plain_count(n, sheet))
            filled = [sum(hour != 0 for hour in word) for word in plain_words(n, sheet)]
            self.same(zero_counts(n, sheet), tuple(filled.count(i) for i in range(len(sheet[0]) + 1)))

    def test_sheets_of_one_word_and_of_20_columns(self):
        for n in (2, 12, 30):
            size = len(plain_divisors(n))
            for length in (1, 20):
                zeros = ((0,) * length,)
                self.same(count_of(n, zeros), (((0,) * (size - 1) + (length,), 1),))
                self.same(zero_counts(n, zeros), (1,) + (0,) * length)
                ones = ((1,) * length,)
                self.assertEqual(sum(number for _, number in count_of(n, ones)), n)
                self.same(zero_counts(n, ones), (1,) + (0,) * (length - 1) + (n - 1,))

    def test_most_words(self):
        source = chance(403)
        for n, rows in [(2, 12), (17, 3), (8, 4), (30, 2)]:
            sheet = chance_sheet(source, n, rows, 20) if rows <= 6 else tuple(
                tuple(int(i == j) for j in range(20)) for i in range(rows)
            )
            self.assertEqual(sum(number for _, number in count_of(n, sheet)), many_words(n, sheet))
            self.assertEqual(sum(zero_counts(n, sheet)), many_words(n, sheet))


class Turned(Case):
    def check(self, n, count):
        """Whether the turned count has the values of the polynomial that is turned."""
        found = turned_count(n, count)
        self.assertIs(type(found), tuple)
        self.assertEqual([powers for powers, _ in found], sorted({powers for powers, _ in found}))
        for powers, number in found:
            self.assertEqual((type(powers), type(number), len(number)), (tuple, tuple, 2))
            self.assertTrue(number[1] >= 1 and gcd(*number) == 1 and number[0] != 0)
            self.assertEqual(sum(powers), sum(count[0][0]))
        total = sum(number for _, number in count)
        source = chance(sum(count[0][0]))
        for _ in range(6):
            letters = [source.randrange(-9, 10) for _ in plain_divisors(n)]
            forms = [sum(a * b for a, b in zip(row, letters)) for row in plain_depth_table(n)]
            self.assertEqual(value_at(found, letters), value_at(count, forms) / total)
        self.check_bar(n, count, found)
        return found

    def check_bar(self, n, count, found):
        bars = [powers for powers, (top, bottom) in found if top < 0 or bottom > 1]
        self.same(bar_of(n, count), bars[0] if bars else None)

    def test_each_clock(self):
        source = chance(411)
        for n in CLOCKS:
            for length in (1, 2, 3):
                self.check(n, drawn_count(source, n, length, 4, 10))
                self.check(n, drawn_count(source, n, length, 60, 10 ** 9))

    def test_the_greatest_lengths(self):
        source = chance(412)
        for n in (2, 8, 15, 29, 16, 18, 24, 30):
            for many in (1, 5, 1000):
                self.check(n, drawn_count(source, n, longest(n), many, 10 ** 9))

    def test_the_count_of_the_annulled_sheet_is_the_turned_count(self):
        found = 0
        for n, sheet in small_sheets(413, 300):
            if len(sheet[0]) <= longest(n):
                count = count_of(n, sheet)
                expected = tuple((powers, (number, 1)) for powers, number in count_of(n, annulled(n, sheet)))
                self.same(turned_count(n, count), expected)
                self.same(bar_of(n, count), None)
                self.same(turned_count(n, whole(expected)), tuple((powers, (number, 1)) for powers, number in count))
                found += 1
        self.assertGreater(found, 200)

    def test_the_count_of_the_annulled_sheet_on_each_clock(self):
        source = chance(414)
        for n in CLOCKS:
            sheet = chance_sheet(source, n, 1, 2)
            expected = tuple((powers, (number, 1)) for powers, number in plain_count(n, annulled(n, sheet)))
            self.same(turned_count(n, plain_count(n, sheet)), expected)

    def test_turned_twice(self):
        source = chance(415)
        for n in CLOCKS:
            size = len(plain_divisors(n))
            length = source.randrange(1, 4)
            count = dict(drawn_count(source, n, length, 5, 9))
            count[(0,) * (size - 1) + (length,)] = 1
            count = tuple(sorted(count.items()))
            total = sum(number for _, number in count)
            if total == 0:
                continue
            # A multiple of a count has the same turned count, so the one with integers is taken.
            turned = [(powers, abs(total) * top // bottom) for powers, (top, bottom) in turned_count(n, count)]
            expected = tuple((powers, (number, 1)) for powers, number in count)
            self.same(turned_count(n, tuple(turned)), expected)

    def test_a_single_pair_and_numbers_below_0(self):
        self.same(turned_count(2, (((0, 3), 1),)), tuple(((k, 3 - k), (comb(3, k), 1)) for k in range(4)))
        self.same(turned_count(2, (((1, 0), -7),)), (((0, 1), (1, 1)), ((1, 0), (-1, 1))))
        self.same(turned_count(2, (((0, 1), -2), ((1, 0), 1))), (((0, 1), (1, 1)), ((1, 0), (3, 1))))
        self.same(bar_of(2, (((0, 1), -2), ((1, 0), 1))), None)
        self.same(bar_of(2, (((1, 0), -7),)), (1, 0))
        for n in CLOCKS:
            self.check(n, (((0,) * (len(plain_divisors(n)) - 1) + (2,), -(10 ** 9)),))
            self.check(n, (((1,) + (0,) * (len(plain_divisors(n)) - 1), 1),))

    def test_zeros_are_left_out(self):
        self.same(turned_count(2, (((0, 1), 1), ((1, 0), 1))), (((0, 1), (1, 1)),))
        self.same(turned_count(2, (((0, 2), 1), ((2, 0), 1))), (((0, 2), (1, 1)), ((2, 0), (1, 1))))
        for n, sheet in [(4, ((1, 0), (0, 1))), (12, ((1,),))]:
            count = count_of(n, sheet)
            size = len(plain_divisors(n))
            self.same(turned_count(n, count), (((0,) * (size - 1) + (len(sheet[0]),), (1, 1)),))

    def test_counts_that_are_barred_are_of_no_sheet(self):
        others = 0
        for n, length in [(2, 3), (3, 2), (4, 2)]:
            # Each sheet of this length has the words of one with so many rows.
            sheets = itertools.product(itertools.product(range(n), repeat=length), repeat=length)
            counts = {count_of(n, sheet) for sheet in sheets}
            powers = powers_of(len(plain_divisors(n)), length)
            for numbers in itertools.product(range(4), repeat=len(powers)):
                count = tuple((own, number) for own, number in zip(powers, numbers) if number)
                if not count:
                    continue
                if count in counts:
                    self.same(bar_of(n, count), None)
                others += bar_of(n, count) is None and count not in counts
        # The reverse fails.
        self.assertGreater(others, 0)


class TurnedZeros(Case):
    def test_each_clock_by_the_sums(self):
        source = chance(421)
        for n in CLOCKS:
            for size in (2, 3, 5, 21):
                for most in (5, 10 ** 9):
                    counts = tuple(source.randrange(-most, most + 1) for _ in range(size))
                    if sum(counts) != 0:
                        self.same(turned_zeros(n, counts), plain_turned_zeros(n, counts))

    def test_zero_counts_of_annulled_sheets(self):
        for n, sheet in small_sheets(422, 200):
            expected = tuple((number, 1) for number in zero_counts(n, annulled(n, sheet)))
            self.same(turned_zeros(n, zero_counts(n, sheet)), expected)

    def test_zero_counts_of_long_sheets(self):
        source = chance(423)
        for n in (2, 3, 4, 6):
            ends = [tuple(source.choices(range(n), k=2)) for _ in range(18)]
            sheet = tuple(tuple(int(i == j) for j in range(18)) + ends[i] for i in range(18))
            behind = annulled(n, sheet)
            found = turned_zeros(n, zero_counts(n, behind))
            self.assertEqual(sum(top for top, bottom in found), many_words(n, sheet))
            self.assertTrue(all(bottom == 1 and top >= 0 for top, bottom in found))
            self.same(turned_zeros(n, tuple(top for top, _ in found)), tuple((a, 1) for a in zero_counts(n, behind)))

    def test_edges(self):
        self.same(turned_zeros(2, (1, 0)), ((1, 1), (1, 1)))
        self.same(turned_zeros(30, (0, 7)), ((1, 1), (-1, 1)))
        self.same(turned_zeros(2, (1, -3)), ((1, 1), (-2, 1)))
        self.same(turned_zeros(3, (0, 0, -5)), plain_turned_zeros(3, (0, 0, -5)))
        self.same(turned_zeros(3, (1, 2, 0)), plain_turned_zeros(3, (1, 2, 0)))
        self.same(turned_zeros(7, (0,) * 20 + (1,)), plain_turned_zeros(7, (0,) * 20 + (1,)))


class Wrong(Case):
    def test_wrong_rows_and_sheets(self):
        self.refuses(BadRow, depth_counts, {"n": 4}, "row", no_rows())
        self.refuses(BadSheet, count_of, {"n": 4}, "sheet", no_sheets())
        self.refuses(BadSheet, zero_counts, {"n": 4}, "sheet", no_sheets())

    def test_wrong_counts(self):
        one, two, three = ((0, 0, 2), 1), ((0, 1, 1), 1), ((1, 1, 0), 2)
        wrong = odd_values() + [
            (two, one), (one, three, two), (one, one), (one, ((0, 0, 2), 3)), [one, two], (list(one), two),
            (([0, 0, 2], 1),), {one: two}, dict((one, two)), (one, ((0, 0, 1), 1)), (one, ((1, 1, 1), 1)),
            (one, ((0, 1), 1)), (((0, 0, 0, 2), 1),), (((0, 0, 0), 1),), (one, ((0, 1, 1), 0)), (((0, 0, 2), 0),),
            (((0, 0, 2), 1), ((0, 1, 1), -1)), (one, two, ((1, 1, 0), -2)), (((-1, 1, 2), 1),), (((0, -1, 3), 1),),
            (((0, 0, 2), True),), (((False, 0, 2), 1),), (((0, 0, 2), (1, 1)),), (((0, 0, 2), None),),
            (((0, 0, 2), "1"),), (((0, 0, "2"), 1),), (((0, 0, 2),),), (((0, 0, 2), 1, 1),), ((1, (0, 0, 2)),),
            one, ("002", 1), (("002", 1),), (one, None), (one, two, ()), (((0, 0, 2), 10 ** 39), two, one),
        ]
        for function in (turned_count, bar_of):
            self.refuses(BadCounts, function, {"n": 4}, "count", wrong)
            # As many depth counts as another clock has.
            for n in (2, 6, 12, 30):
                self.raises(BadCounts((one, two)), function, n=n, count=(one, two))
            function(n=4, count=(one, two, three))
            function(n=4, count=(one, two, ((1, 1, 0), -1)))

    def test_wrong_zero_counts(self):
        wrong = odd_values() + [
            (1,), (1,) * 22, (0, 0), (1, -1), (0,) * 21, (3, -1, -2), [1, 2], (1, True), (1, 2, None), (1, "2"),
            (1, (1, 1)), ((1, 1), 2), "12", {0: 1, 1: 2}, (1, 2.5),
        ]
        right = [thing for thing in odd_values() if thing == (0,) * 21]
        self.assertEqual(len(right), 1)
        self.refuses(BadCounts, turned_zeros, {"n": 4}, "counts", wrong)
        turned_zeros(n=4, counts=(1,) * 21)
        turned_zeros(n=4, counts=(1, 0))
