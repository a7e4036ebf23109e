"""Tests of clocks put together [12.3]."""

from math import gcd

from hoursheets.annulled import annulled
from hoursheets.errors import BadSheet, BadWeighing, OtherLengths
from hoursheets.reduced import is_reduced, many_words, reduced, words_of
from hoursheets.rests import made_of, part_by, weighing_of
from hoursheets.telling import is_telling, judge_weighing, weighing_holds
from hoursheets.weighings import is_weighing, level_weighing, plain_weighing, round_weighing
from tests.helper import (
    Case, chance, chance_sheet, large_sheets, no_sheets, no_weighings, plain_words, rows_of, small_sheets, together,
    weighings_of,
)

# All pairs of clocks without a common divisor whose product is a clock, in both orders.
PAIRS = [(a, b) for a in range(2, 16) for b in range(2, 16) if a * b <= 30 and gcd(a, b) == 1]


def rests(row, a):
    return tuple(hour % a for hour in row)


class Made(Case):
    def test_examples(self):
        self.run_examples("""
>>> from hoursheets.rests import made_of, part_by, weighing_of
>>> [made_of(2, 3, ((1,),), ((0,),)), part_by(6, 2, ((3,),)), part_by(6, 3, ((3,),)), weighing_of(2, 3, (0, 1), (0, 1, 1))]
[((3,),), ((1,),), ((0,),), (0, 2, 1, 1, 1, 2)]
""")

    def check(self, a, b, one, other):
        n = a * b
        found = made_of(a, b, one, other)
        words, more = plain_words(a, one), plain_words(b, other)
        self.assertTrue(is_reduced(n, found))
        rows = rows_of(n, len(one[0]))
        expected = {row for row in rows if rests(row, a) in words and rests(row, b) in more}
        self.assertEqual(set(words_of(n, found)), expected)
        self.same(many_words(n, found), len(words) * len(more))
        self.same([part_by(n, a, found), part_by(n, b, found)], [reduced(a, one), reduced(b, other)])
        self.same(annulled(n, found), made_of(a, b, annulled(a, one), annulled(b, other)))
        self.same(made_of(b, a, other, one), found)

    def test_all_pairs_of_clocks(self):
        source = chance(601)
        for a, b in PAIRS:
            for length in (1, 2):
                self.check(a, b, chance_sheet(source, a, 1, length), chance_sheet(source, b, 1, length))
            self.check(a, b, chance_sheet(source, a, 2, 1), chance_sheet(source, b, 3, 1))

    def test_each_hour_has_its_remainders(self):
        for a, b in PAIRS:
            for x in range(a):
                for y in range(b):
                    words = words_of(a * b, made_of(a, b, ((x,),), ((y,),)))
                    self.assertTrue(any((hour % a, hour % b) == (x, y) for hour, in words))

    def test_parts_of_sheets(self):
        for n, sheet in small_sheets(602, 150):
            for a in [a for a in range(2, n + 1) if n % a == 0 and gcd(a, n // a) == 1]:
                found = part_by(n, a, sheet)
                self.assertTrue(is_reduced(a, found))
                self.assertEqual(plain_words(a, found), {rests(word, a) for word in plain_words(n, sheet)})
                if a < n:
                    self.same(made_of(a, n // a, found, part_by(n, n // a, sheet)), reduced(n, sheet))

    def test_the_part_by_the_clock_itself(self):
        for n, sheet in small_sheets(603, 30):
            self.same(part_by(n, n, sheet), reduced(n, sheet))

    def test_large_sheets(self):
        source = chance(604)
        for a, b in PAIRS:
            n, length = a * b, source.randrange(15, 21)
            one = chance_sheet(source, a, source.randrange(1, 7), length)
            other = chance_sheet(source, b, source.randrange(1, 7), length)
            found = made_of(a, b, one, other)
            self.assertTrue(is_reduced(n, found))
            self.same(many_words(n, found), many_words(a, one) * many_words(b, other))
            self.same([part_by(n, a, found), part_by(n, b, found)], [reduced(a, one), reduced(b, other)])
            self.same(annulled(n, found), made_of(a, b, annulled(a, one), annulled(b, other)))
        for n, sheet in large_sheets(605, 60):
            for a in [a for a in range(2, n) if n % a == 0 and gcd(a, n // a) == 1]:
                parts = part_by(n, a, sheet), part_by(n, n // a, sheet)
                self.same(made_of(a, n // a, *parts), reduced(n, sheet))

    def test_sheets_of_20_rows(self):
        for a, b in PAIRS:
            zeros = ((0,) * 20,)
            full = annulled(a, zeros), annulled(b, zeros)
            self.same(made_of(a, b, *full), annulled(a * b, zeros))
            self.same(made_of(a, b, zeros, zeros), zeros)
            self.same(part_by(a * b, a, annulled(a * b, zeros)), full[0])
            self.same(many_words(a * b, made_of(a, b, full[0], zeros)), a ** 20)


class Weighings(Case):
    def test_all_pairs_of_clocks(self):
        for a, b in PAIRS:
            for u, v in zip(weighings_of(a, 611), weighings_of(b, 612)):
                if max(u) <= 500000 and max(v) <= 500000:
                    self.check(a, b, u, v)

    def check(self, a, b, u, v):
        found = weighing_of(a, b, u, v)
        self.same(found, together(a, b, u, v))
        self.same(is_weighing(a * b, found), True)
        self.same(is_telling(a * b, found), False)
        self.same(weighing_of(b, a, v, u), found)

    def test_the_heaviest_items(self):
        for a, b in PAIRS:
            u, v = (0,) + (500000,) * (a - 1), (0,) + (500000,) * (b - 1)
            self.check(a, b, u, v)
            self.check(a, b, u, round_weighing(b))
            self.assertEqual(max(weighing_of(a, b, u, v)), 10 ** 6)

    def test_they_lose_by_certificate(self):
        for a, b in PAIRS:
            for kind in (plain_weighing, level_weighing):
                w = weighing_of(a, b, kind(a), kind(b))
                found = judge_weighing(a * b, w)
                self.assertEqual(found[0], "loses")
                self.same(weighing_holds(a * b, w, found), True)


class Wrong(Case):
    def test_wrong_sheets(self):
        self.refuses(BadSheet, made_of, {"a": 4, "b": 3, "other": ((0, 1),)}, "one", no_sheets())
        self.refuses(BadSheet, made_of, {"a": 3, "b": 4, "one": ((0, 1),)}, "other", no_sheets())
        self.refuses(BadSheet, part_by, {"n": 4, "a": 4}, "sheet", no_sheets())
        # Hours of the one clock that the other one has not.
        self.raises(BadSheet(((2,),)), made_of, 2, 3, ((2,),), ((2,),))
        self.raises(BadSheet(((2,),)), made_of, 3, 2, ((2,),), ((2,),))
        self.raises(BadSheet(((6,),)), part_by, 6, 2, ((6,),))
        self.same(made_of(a=2, b=3, one=((1,),), other=((2,),)), ((1,),))
        self.same(part_by(n=6, a=3, sheet=((5,),)), ((1,),))

    def test_other_lengths(self):
        self.raises(OtherLengths(), made_of, a=2, b=3, one=((1,),), other=((1, 2),))
        self.raises(OtherLengths(), made_of, a=2, b=3, one=((1, 1),), other=((1,), (2,)))
        self.same(made_of(2, 3, ((1,),), ((0,), (0,))), ((3,),))

    def test_wrong_weighings(self):
        self.refuses(BadWeighing, weighing_of, {"a": 4, "b": 3, "v": (0, 1, 1)}, "u", no_weighings())
        self.refuses(BadWeighing, weighing_of, {"a": 3, "b": 4, "u": (0, 1, 1)}, "v", no_weighings())
        self.same(weighing_of(a=2, b=3, u=(0, 5), v=(0, 1, 2)), (0, 6, 2, 5, 1, 7))

    def test_the_first_error_of_two(self):
        self.raises(BadSheet(None), made_of, 2, 3, None, [])
        self.raises(BadSheet([]), made_of, 2, 3, ((1,),), [])
        self.raises(BadSheet(((3,),)), made_of, 2, 3, ((1, 1),), ((3,),))
        self.raises(BadWeighing((0, 1, 1)), weighing_of, 2, 3, (0, 1, 1), (0, 1))
        self.raises(BadWeighing((0, 1)), weighing_of, 2, 3, (0, 1), (0, 1))
