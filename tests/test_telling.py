"""Tests of weighings that tell or lose [4.2], of what they tell [4.3], and of the two rows at a divisor [4.4]."""

import itertools
from math import gcd

from hoursheets.errors import BadCounts, BadWeighing, TooLong
from hoursheets.exchanges import judge_made
from hoursheets.maps import is_sound, unkept_word
from hoursheets.telling import is_telling, judge_weighing, rank_of, two_rows_at, two_sheets, weighing_holds
from hoursheets.weighings import depth_sums, is_alike_on_units, level_weighing, plain_weighing
from tests.helper import (
    CLOCKS, Case, chance, losers, misshapen, most_hours, no_weighings, odd_values, plain_divisors, plain_exchanges,
    plain_least_hours,
    plain_led, plain_rank, plain_sign, plain_table, plain_weight, rows_of, sheets_of, weighings_of,
    with_another_integer,
)

FUNCTIONS = (judge_weighing, is_telling, rank_of)
LOST = (0, 3, 1, 2, 1, 3)


def is_right(n, w, certificate):
    """Whether a certificate of the right form is right, by its words in [4.2]."""
    table = plain_table(n, w)
    size = range(len(table))
    if certificate[0] == "loses":
        counts = certificate[1]
        return any(counts) and all(sum(table[i][j] * counts[j] for j in size) == 0 for i in size)
    rows, number = certificate[1:]
    return number >= 1 and all(
        sum(rows[i][j] * table[j][k] for j in size) == (number if i == k else 0) for i in size for k in size
    )


def with_padding(one, other):
    """Two sheets with columns of zeros behind the shorter one."""
    length = max(len(one[0]), len(other[0]))
    return [tuple(row + (0,) * (length - len(row)) for row in sheet) for sheet in (one, other)]


def all_weighings(n):
    return weighings_of(n, 81) + [w for clock, w in losers() if clock == n]


class Certificates(Case):
    def check(self, n, w):
        size = len(plain_table(n, w))
        found = judge_weighing(n, w)
        telling = plain_rank(plain_table(n, w)) == size
        self.assertIs(type(found), tuple)
        if telling:
            self.assertEqual((found[0], len(found), len(found[1])), ("tells", 3, size))
            self.assertTrue(all(type(row) is tuple and len(row) == size for row in found[1]))
            self.assertTrue(all(type(item) is int for row in found[1] + ((found[2],),) for item in row))
        else:
            self.assertEqual((found[0], len(found), len(found[1])), ("loses", 2, size))
            self.assertTrue(all(type(count) is int for count in found[1]))
        self.assertTrue(is_right(n, w, found), (n, w, found))
        self.same([weighing_holds(n, w, found), is_telling(n, w)], [True, telling])
        return found

    def test_examples(self):
        self.run_examples("""
>>> from hoursheets.weighings import classes, depth_sums, keepers, level_weighing, round_weighing, weight_of, weight_table
>>> w = round_weighing(6)
>>> from hoursheets.telling import is_telling, rank_of, two_rows_at, two_sheets, weighing_holds
>>> v = (0, 3, 1, 2, 1, 3)
>>> [is_telling(6, w), weighing_holds(6, v, ('loses', (1, -1, -1))), two_sheets(6, v, (1, -1, -1)), two_rows_at(6, 1), rank_of(6, v)]
[True, True, (((1, 0),), ((2, 3),)), ((0, 1), (2, 3)), 2]
>>> two_sheets(6, v, (-2, 2, 2))
(((2, 2, 3, 3),), ((1, 1, 0, 0),))
>>> two_sheets(6, w, (1, -1, -1))
raises BadCounts((1, -1, -1))
""")

    def test_all_clocks(self):
        for n in CLOCKS:
            for w in all_weighings(n):
                if len(plain_table(n, w)) <= 14:
                    self.check(n, w)

    def test_up_to_14_classes_with_large_items(self):
        source = chance(82)
        for n in range(2, 16):
            for _ in range(3):
                w = (0,) + tuple(source.randrange(10 ** 6 - 20, 10 ** 6 + 1) for _ in range(n - 1))
                self.check(n, w)
        self.assertEqual(len(plain_table(15, w)), 14)

    def test_random_small_weighings(self):
        source = chance(83)
        kinds = set()
        for _ in range(400):
            n = source.randrange(4, 13)
            w = (0,) + tuple(source.randrange(1, 4) for _ in range(n - 1))
            kinds.add((n, self.check(n, w)[0]))
        self.assertLessEqual({(n, kind) for n in (6, 8, 10, 12) for kind in ("tells", "loses")}, kinds)

    def test_losers_lose(self):
        for n, w in losers():
            self.assertEqual(self.check(n, w)[0], "loses")

    def test_the_plain_and_the_level_weighing_tell(self):
        for n in CLOCKS:
            for w in (plain_weighing(n), level_weighing(n)):
                self.assertEqual(self.check(n, w)[0], "tells")
                self.same(rank_of(n, w), len(plain_divisors(n)) - 1)

    def test_items_of_1_and_of_a_million(self):
        for item in (1, 10 ** 6):
            self.assertEqual(self.check(2, (0, item))[0], "tells")
            self.same(weighing_holds(2, (0, item), ("tells", ((1,),), item)), True)
            self.same(weighing_holds(2, (0, item), ("tells", ((10 ** 20,),), item * 10 ** 20)), True)
            self.same(weighing_holds(2, (0, item), ("tells", ((1,),), item + 1)), False)

    def test_ranks(self):
        for n in CLOCKS:
            for w in all_weighings(n):
                self.same(rank_of(n, w), plain_rank(plain_table(n, w)))

    def test_ranks_and_telling_with_up_to_29_classes(self):
        source = chance(84)
        for n in (16, 17, 23, 24, 27, 28, 29, 30):
            for most in (2, 10 ** 6):
                w = (0,) + tuple(source.randrange(1, most + 1) for _ in range(n - 1))
                expected = plain_rank(plain_table(n, w))
                self.same([rank_of(n, w), is_telling(n, w)], [expected, expected == len(plain_table(n, w))])
        self.assertEqual(len(plain_table(30, w)), 29)
        for a, b in ((5, 6), (4, 7), (2, 15), (3, 10)):
            n = a * b
            w = tuple(x % a + 20 * (x % b) for x in range(n))
            self.assertEqual(len(plain_table(n, w)), n - 1)
            self.same([rank_of(n, w), is_telling(n, w)], [plain_rank(plain_table(n, w)), False])

    def test_certificates_are_of_just_one_kind(self):
        for n, w in [(3, (0, 1, 2)), (4, (0, 1, 2, 3)), (4, (0, 1, 2, 1)), (6, LOST), (6, (0, 1, 2, 3, 2, 1))]:
            size = len(plain_table(n, w))
            counts = [("loses", counts) for counts in itertools.product(range(-3, 4), repeat=size)]
            held = [thing for thing in counts if weighing_holds(n, w, thing)]
            self.assertEqual(held, [thing for thing in counts if is_right(n, w, thing)])
            self.assertEqual(bool(held), not is_telling(n, w))
        for w in ((0, 1, 1), (0, 1, 2), (0, 2, 1), (0, 2, 2)):
            size = len(plain_table(3, w))
            tables = itertools.product(itertools.product(range(-2, 3), repeat=size), repeat=size)
            things = [("tells", rows, number) for rows in tables for number in range(-4, 5)]
            held = [thing for thing in things if weighing_holds(3, w, thing)]
            self.assertEqual(held, [thing for thing in things if is_right(3, w, thing)])
            self.assertTrue(held)

    def test_right_certificates_whoever_made_them(self):
        for n in (4, 6, 9, 12):
            for w in all_weighings(n):
                found = judge_weighing(n, w)
                for factor in (2, 3, 10 ** 12):
                    if found[0] == "tells":
                        rows = tuple(tuple(factor * item for item in row) for row in found[1])
                        self.same(weighing_holds(n, w, ("tells", rows, factor * found[2])), True)
                        turned = tuple(tuple(-item for item in row) for row in found[1])
                        self.same(weighing_holds(n, w, ("tells", turned, -found[2])), False)
                    else:
                        for sign in (1, -1):
                            counts = tuple(sign * factor * count for count in found[1])
                            self.same(weighing_holds(n, w, ("loses", counts)), True)

    def test_certificates_with_one_part_changed(self):
        for n, w in [
            (4, (0, 1, 2, 3)), (6, (0, 1, 2, 3, 2, 1)), (6, LOST), (8, (0, 4, 2, 1, 3, 1, 3, 4)), (5, (0, 1, 1, 2, 2)),
        ]:
            found = judge_weighing(n, w)
            for thing in with_another_integer(found, (0, 1, 10 ** 29, -(10 ** 29) - 7)):
                self.same(weighing_holds(n, w, thing), is_right(n, w, thing))
            for thing in misshapen(found):
                self.same(weighing_holds(n, w, thing), False)
        self.same(weighing_holds(6, LOST, ("loses", (0, 0, 0))), False)
        self.same(weighing_holds(6, LOST, ("tells", ((0, 0, 0),) * 3, 0)), False)
        self.same(weighing_holds(6, LOST, ("tells", ((0, 0, 0),) * 3, 1)), False)
        self.same(weighing_holds(2, (0, 1), ("tells", ((True,),), 1)), False)
        self.same(weighing_holds(2, (0, 1), ("tells", ((1,),), True)), False)
        self.same(weighing_holds(6, LOST, ("loses", (True, -1, -1))), False)

    def test_any_value_as_certificate(self):
        for thing in odd_values() + [("tells",), ("loses",), ("loses", ()), ("tells", (), 1), ("loses", None)]:
            self.same(weighing_holds(6, LOST, thing), False)
            self.same(weighing_holds(2, (0, 1), thing), False)

    def test_wrong_weighings(self):
        for function in FUNCTIONS:
            self.refuses(BadWeighing, function, {"n": 4}, "w", no_weighings())
        self.refuses(BadWeighing, weighing_holds, {"n": 4, "thing": ("loses", (1,))}, "w", no_weighings())
        self.refuses(BadWeighing, two_sheets, {"n": 4, "counts": (1, -1)}, "w", no_weighings())
        self.raises(BadWeighing((0, 1)), weighing_holds, 4, (0, 1), None)


class TwoSheets(Case):
    def check(self, n, w, counts):
        """Whether the two sheets are as [4.3] says."""
        one, other = two_sheets(n, w, counts)
        least = plain_least_hours(n, w)
        above = [a for a, count in zip(least, counts) for _ in range(count)]
        below = [a for a, count in zip(least, counts) for _ in range(-count)]
        length = max(len(above), len(below))
        self.same(one, (tuple(above + [0] * (length - len(above))),))
        self.same(other, (tuple(below + [0] * (length - len(below))),))
        for a in range(n):
            weights = [plain_weight(w, [a * hour % n for hour in sheet[0]]) for sheet in (one, other)]
            self.assertEqual(weights[0], weights[1])
        self.same(unkept_word(n, w, one, other), None)
        self.assertEqual(judge_made(n, w, one, other)[0], "unlike")
        return one, other

    def test_losers(self):
        for n, w in losers():
            counts = judge_weighing(n, w)[1]
            if most_hours(counts) <= 20:
                one, other = self.check(n, w, counts)
                turned = self.check(n, w, tuple(-count for count in counts))
                self.same(turned, (other, one))
                if len(one[0]) <= 4 and n <= 10:
                    exchanges = plain_exchanges(n, w, len(one[0]))
                    self.assertNotIn(other[0], [plain_led(n, own, one[0]) for own in exchanges])

    def test_rows_of_20_and_of_21_hours(self):
        w = (0, 4, 2, 2, 2, 1)
        for many in range(1, 21):
            self.same(two_sheets(6, w, (0, many, 0, -many, 0)), (((2,) * many,), ((4,) * many,)))
        for many in (21, 22, 10 ** 29):
            self.raises(TooLong(), two_sheets, 6, w, (0, many, 0, -many, 0))
            self.raises(TooLong(), two_sheets, 6, w, (0, -many, 0, many, 0))
        self.same(two_sheets(6, LOST, (10, -10, -10)), (((1,) * 10 + (0,) * 10,), ((2,) * 10 + (3,) * 10,)))
        self.raises(TooLong(), two_sheets, 6, LOST, (11, -11, -11))
        self.raises(TooLong(), two_sheets, 6, LOST, (-11, 11, 11))

    def test_wrong_counts(self):
        wrong = odd_values() + [
            (1, -1), (1, -1, -1, 0), (0, 0, 0), [1, -1, -1], (1, -1, 1), (True, -1, -1), ("1", "-1", "-1"),
            (1, -1, None),
            (10 ** 29, -(10 ** 29), 10 ** 29), (22, -22, -21), (30, 0, 0),
        ]
        self.refuses(BadCounts, two_sheets, {"n": 6, "w": LOST}, "counts", wrong)
        self.refuses(BadCounts, two_sheets, {"n": 6, "w": plain_weighing(6)}, "counts", wrong + [(1, -1, -1)])

    def test_the_first_error_of_two(self):
        self.raises(BadWeighing((0, 1)), two_sheets, 6, (0, 1), (1, -1, -1))
        self.raises(BadWeighing(None), two_sheets, n=6, w=None, counts=None)
        self.raises(BadCounts((22, -22)), two_sheets, n=6, w=LOST, counts=(22, -22))


class Told(Case):
    def test_weighings_that_tell_keep_no_other_maps(self):
        for n, w in [
            (2, (0, 3)), (3, (0, 1, 1)), (3, (0, 1, 2)), (4, (0, 1, 2, 1)), (4, (0, 2, 1, 2)), (4, (0, 1, 2, 3)),
        ]:
            self.assertTrue(is_telling(n, w))
            shapes = [(1, 1), (1, 2)] + ([(1, 3), (2, 1), (2, 2)] if n <= 3 else [])
            sheets = [sheet for shape in shapes for sheet in sheets_of(n, *shape)]
            for one in sheets:
                for other in sheets:
                    if len(one) == len(other) and is_sound(n, one, other) and unkept_word(n, w, one, other) is None:
                        self.assertEqual(judge_made(n, w, *with_padding(one, other))[0], "made")

    def test_weighings_that_lose_keep_other_maps_of_one_row(self):
        for n, w in [(5, (0, 1, 1, 2, 2)), (6, LOST), (6, (0, 4, 2, 2, 2, 1))]:
            rows = rows_of(n, 2)
            kinds = {
                judge_made(n, w, (one,), (other,))[0]
                for one in rows for other in rows
                if is_sound(n, (one,), (other,)) and unkept_word(n, w, (one,), (other,)) is None
            }
            self.assertEqual(kinds, {"made", "unlike"})


class AlikeOnUnits(Case):
    def test_they_tell_exactly_if_no_depth_sum_is_0(self):
        source = chance(85)
        found = set()
        for n in CLOCKS:
            for most in (2, 3, 5, 10 ** 6):
                for _ in range(6):
                    weights = {d: source.randrange(1, most + 1) for d in plain_divisors(n)}
                    w = (0,) + tuple(weights[gcd(a, n)] for a in range(1, n))
                    self.assertTrue(is_alike_on_units(n, w))
                    self.same(is_telling(n, w), 0 not in depth_sums(n, w))
                    found.add(is_telling(n, w))
                    self.look_at_zeros(n, w)
        self.assertEqual(found, {True, False})

    def look_at_zeros(self, n, w):
        """Whether the two rows at a divisor whose depth sum is 0 weigh alike and are no exchange of one another."""
        for divisor, number in zip(plain_divisors(n), depth_sums(n, w)):
            one, other = two_rows_at(n, divisor)
            for a in range(n):
                weights = [plain_weight(w, [a * hour % n for hour in row]) for row in (one, other)]
                if number == 0:
                    self.assertEqual(weights[0], weights[1])
            self.assertEqual(judge_made(n, w, (one,), (other,))[0], "unlike")

    def test_two_rows_at_all_divisors(self):
        for n in CLOCKS:
            for divisor in plain_divisors(n)[:-1]:
                rest = n // divisor
                expected = tuple(
                    tuple(sorted(divisor * t % n for t in plain_divisors(rest) if plain_sign(rest // t) == sign))
                    for sign in (1, -1)
                )
                self.same(two_rows_at(n, divisor), expected)
                self.assertEqual(len(expected[0]), len(expected[1]))
                self.assertEqual(expected[0][0], 0)

    def test_two_rows_of_some_clocks(self):
        self.same([two_rows_at(2, 1), two_rows_at(4, 1), two_rows_at(4, 2)], [((0,), (1,)), ((0,), (2,)), ((0,), (2,))])
        self.same(two_rows_at(30, 1), ((0, 2, 3, 5), (1, 6, 10, 15)))
        self.same(two_rows_at(n=12, divisor=2), ((0, 2), (4, 6)))

    def test_the_weights_of_the_two_rows_differ_by_the_depth_sum(self):
        for n in CLOCKS:
            source = chance(86 + n)
            weights = {d: source.randrange(1, 10 ** 6) for d in plain_divisors(n)}
            w = (0,) + tuple(weights[gcd(a, n)] for a in range(1, n))
            for divisor, number in zip(plain_divisors(n), depth_sums(n, w)):
                one, other = two_rows_at(n, divisor)
                self.same(plain_weight(w, one) - plain_weight(w, other), number)
