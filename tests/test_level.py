"""Tests of level counts [8.1] and of certificates for them [8.2]."""

from fractions import Fraction
from math import lcm

from hoursheets.errors import BadWeighing, Loses
from hoursheets.level import judge_level, level_counts, level_holds, level_length
from hoursheets.lists import counts_of, is_counts, list_of, list_of_counts, sheet_of_counts
from hoursheets.telling import weighing_holds
from tests.helper import (
    SHAPES, SMALL_SHAPES, Case, losers, misshapen, no_weighings, odd_values, plain_columns, plain_read_back, rows_of,
    sheets_of, telling_weighings, with_another_integer,
)

FUNCTIONS = (level_counts, judge_level, level_length)
ROUND = (0, 1, 2, 1)
SQUARE = (0, 1, 4, 1)
NO_SHEET = (0, 2, 1, 2)


def ones(n, k):
    return (0,) + (1,) * (n ** k - 1)


def right_ones(n, w, k):
    """All certificates of [8.2], by solving all equations at once."""
    counts = plain_read_back(n, w, k, ones(n, k))
    below = [("column", column, number) for column, number in counts if number[0] < 0]
    least = lcm(*[bottom for column, (top, bottom) in counts])
    return below or [("level", least, tuple((column, (top * least // bottom, 1)) for column, (top, bottom) in counts))]


class Level(Case):
    def test_examples(self):
        self.run_examples("""
>>> from hoursheets.level import judge_level, level_counts, level_length
>>> [level_counts(4, (0, 1, 2, 1), 1), judge_level(4, (0, 1, 2, 1), 1), level_length(4, (0, 1, 2, 1), 1), judge_level(4, (0, 2, 1, 2), 1)]
[(((1,), (1, 2)), ((2,), (1, 4))), ('level', 4, (((1,), (2, 1)), ((2,), (1, 1)))), 3, ('column', (2,), (-1, 1))]
""")

    def check(self, n, w, k):
        counts = level_counts(n, w, k)
        self.same(is_counts(n, w, k, counts), True)
        self.same(list_of_counts(n, w, k, counts), tuple((weight, 1) for weight in ones(n, k)))
        found = judge_level(n, w, k)
        self.same(level_holds(n, w, k, found), True)
        below = [pair for pair in counts if pair[1][0] < 0]
        self.assertEqual((type(found), found[0], len(found)), (tuple, "column" if below else "level", 3))
        if below:
            self.assertIn(found[1:], below)
            self.same(level_length(n, w, k), None)
            return
        g = found[1]
        self.assertEqual(g, lcm(*[bottom for column, (top, bottom) in counts]))
        self.same(found[2], tuple((column, (top * g // bottom, 1)) for column, (top, bottom) in counts))
        self.same(level_length(n, w, k), sum(top * g // bottom for column, (top, bottom) in counts))

    def test_all_shapes(self):
        for n, k in SHAPES:
            for w in telling_weighings(n, 211)[k % 2::2]:
                self.check(n, w, k)

    def test_against_all_equations_at_once(self):
        kinds = set()
        for n, k in SMALL_SHAPES:
            for w in telling_weighings(n, 211)[:4]:
                expected = right_ones(n, w, k)
                self.assertIn(judge_level(n, w, k), expected)
                for thing in expected:
                    self.same(level_holds(n, w, k, thing), True)
                    kinds.add(thing[0])
        self.assertEqual(kinds, {"level", "column"})

    def test_level_sheets_weigh_alike(self):
        found = 0
        for n, k in SHAPES:
            for w in telling_weighings(n, 211)[:5]:
                certificate = judge_level(n, w, k)
                if certificate[0] == "level" and level_length(n, w, k) <= 20:
                    sheet = sheet_of_counts(n, w, k, certificate[2])
                    self.assertEqual(len(sheet[0]), level_length(n, w, k))
                    self.same(list_of(n, w, sheet), tuple(certificate[1] * weight for weight in ones(n, k)))
                    found += 1
        self.assertGreater(found, 20)

    def test_all_short_sheets_whose_words_weigh_alike(self):
        found = 0
        for n, w, k, length in [
            (2, (0, 3), 2, 4), (2, (0, 1), 1, 3), (3, (0, 1, 1), 1, 3), (3, (0, 1, 2), 1, 3), (3, (0, 1, 1), 2, 4),
            (4, ROUND, 1, 4), (4, NO_SHEET, 1, 4), (5, (0, 1, 2, 2, 1), 1, 4), (6, (0, 1, 3, 4, 3, 1), 1, 4),
            (7, (0, 1, 2, 3, 3, 2, 1), 1, 3),
        ]:
            counts = level_counts(n, w, k)
            for sheet in sheets_of(n, k, length):
                weights = set(list_of(n, w, sheet)[1:])
                if len(weights) == 1 and weights != {0}:
                    g = weights.pop()
                    expected = [(column, g * Fraction(*number)) for column, number in counts]
                    self.same(counts_of(n, w, sheet), tuple((column, (int(number), 1)) for column, number in expected))
                    self.assertEqual(judge_level(n, w, k)[0], "level")
                    self.assertEqual(g % judge_level(n, w, k)[1], 0)
                    found += 1
        self.assertGreater(found, 20)

    def test_plain_weighings_of_prime_clocks(self):
        for n in (2, 3, 5, 7, 11, 13, 17, 19, 23, 29):
            w = (0,) + (1,) * (n - 1)
            for k in [k for m, k in SHAPES if m == n]:
                columns = plain_columns(n, w, k)
                self.same(judge_level(n, w, k), ("level", n ** (k - 1), tuple((column, (1, 1)) for column in columns)))
                self.same(level_length(n, w, k), (n ** k - 1) // (n - 1))

    def test_items_of_1_and_of_a_million(self):
        for item in (1, 10 ** 6):
            for k in range(1, 7):
                g = item * 2 ** (k - 1)
                counts = tuple((column, (1, 1)) for column in rows_of(2, k)[1:])
                self.same(judge_level(2, (0, item), k), ("level", g, counts))
                self.same(level_counts(2, (0, item), k), tuple((column, (1, g)) for column, number in counts))


class Certificates(Case):
    def test_just_one_certificate_of_the_first_kind(self):
        found = judge_level(4, ROUND, 1)
        for factor in (2, 3, -1, 0, 10 ** 28):
            counts = tuple((column, (factor * top, bottom)) for column, (top, bottom) in found[2])
            self.same(level_holds(4, ROUND, 1, ("level", factor * found[1], counts)), False)
        for g in range(-1, 9):
            self.same(level_holds(4, ROUND, 1, ("level", g, found[2])), g == 4)
        self.same(level_holds(4, ROUND, 1, ("level", 1, level_counts(4, ROUND, 1))), False)

    def test_certificates_with_one_part_changed(self):
        cases = [
            (2, (0, 3), 2), (3, (0, 1, 1), 1), (3, (0, 1, 2), 2), (4, ROUND, 1), (4, NO_SHEET, 1), (4, SQUARE, 2),
            (6, (0, 1, 3, 4, 3, 1), 1),
        ]
        for n, w, k in cases:
            right = right_ones(n, w, k)
            for certificate in right:
                for thing in with_another_integer(certificate, (0, 1, n, 10 ** 29)):
                    self.same(level_holds(n, w, k, thing), thing in right)
                for thing in misshapen(certificate):
                    self.same(level_holds(n, w, k, thing), False)

    def test_items_above_0_are_no_certificates(self):
        self.same(level_counts(4, NO_SHEET, 1), (((1,), (1, 1)), ((2,), (-1, 1))))
        self.same(level_holds(4, NO_SHEET, 1, ("column", (2,), (-1, 1))), True)
        for thing in (
            ("column", (1,), (1, 1)), ("column", (2,), (1, 1)), ("column", (2,), (-2, 2)), ("column", (2,), (-2, 1)),
        ):
            self.same(level_holds(4, NO_SHEET, 1, thing), False)
        for column, number in level_counts(4, ROUND, 1):
            self.same(level_holds(4, ROUND, 1, ("column", column, number)), False)

    def test_counts_below_0_are_no_level_counts(self):
        counts = level_counts(4, NO_SHEET, 1)
        self.same(level_holds(4, NO_SHEET, 1, ("level", 1, counts)), False)
        self.same(level_holds(4, NO_SHEET, 1, ("level", 1, counts[:1])), False)

    def test_any_value_as_certificate(self):
        wrong = odd_values() + [
            ("level",), ("level", 4), ("level", 4, ()), ("level", 4, None), ("level", True, ()), ("level", 0, ()),
            ("column", (1,), (1, 2)), ("column", None, None), ("column", (0,), (-1, 1)), ("column", (2,), (-1,)),
        ]
        for thing in wrong:
            self.same(level_holds(4, ROUND, 1, thing), False)
            self.same(level_holds(4, NO_SHEET, 1, thing), False)
        self.same(level_holds(2, (0, 1), 1, ("level", 1, (((1,), (1, 1)),))), True)
        self.same(level_holds(2, (0, 1), 1, ("level", True, (((1,), (1, 1)),))), False)
        self.same(level_holds(2, (0, 1), 1, ("level", 1, (((True,), (1, 1)),))), False)


class Wrong(Case):
    def test_wrong_weighings(self):
        for function in FUNCTIONS:
            self.refuses(BadWeighing, function, {"n": 4, "k": 1}, "w", no_weighings())
        self.refuses(BadWeighing, level_holds, {"n": 4, "k": 1, "thing": None}, "w", no_weighings())

    def test_weighings_that_lose(self):
        for n, w in losers():
            if n > 15:
                continue
            for function, more in [(function, {}) for function in FUNCTIONS] + [(level_holds, {"thing": None})]:
                for k in [k for m, k in SHAPES if m == n]:
                    with self.assertRaises(Loses) as held:
                        function(n=n, w=w, k=k, **more)
                    self.assertEqual(held.exception.certificate[0], "loses")
                    self.same(weighing_holds(n, w, held.exception.certificate), True)
