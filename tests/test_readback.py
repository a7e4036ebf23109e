"""Tests of lists that are read back [7.3], [7.4] and of certificates for lists [7.5]."""

import itertools
from fractions import Fraction

from hoursheets.errors import BadList, BadWeighing, Clash, Loses
from hoursheets.exchanges import judge_made
from hoursheets.lists import counts_of, is_counts, list_of, list_of_counts
from hoursheets.readback import judge_list, list_holds, read_back
from hoursheets.telling import weighing_holds
from tests.helper import (
    SHAPES, SMALL_SHAPES, Case, alike_list, chance, chance_sheet, in_pairs, losers, misshapen, no_weighings,
    odd_values, plain_columns, plain_keepers, plain_list, plain_read_back, rows_of, sheets_of, telling_weighings,
    with_another_integer,
)

FUNCTIONS = (read_back, judge_list)
ROUND = (0, 1, 2, 1)


def clashes(n, w, k, weights):
    """All pairs of a keeper and multipliers at which a list is unlike."""
    items = dict(zip(rows_of(n, k), weights))
    return [
        (u, x) for u in plain_keepers(n, w) for x in items if items[x] != items[tuple(u * hour % n for hour in x)]
    ]


def is_right(n, w, k, weights, certificate):
    """Whether a certificate of the right form is right, by its words in [7.5]."""
    kind, proof = certificate[0], certificate[1:]
    if kind == "keeper":
        return proof in clashes(n, w, k, weights)
    if kind == "column":
        top, bottom = proof[1]
        if clashes(n, w, k, weights) or bottom < 1:
            return False
        return proof in plain_read_back(n, w, k, weights) and (top < 0 or bottom != 1)
    columns = [column for column, number in proof[0]]
    least = plain_columns(n, w, k)
    if columns != sorted(set(columns)) or any(column not in least for column in columns):
        return False
    if any(top <= 0 or bottom != 1 for column, (top, bottom) in proof[0]):
        return False
    return plain_list(n, w, k, proof[0]) == list(weights)


def small_lists(seed, shapes):
    """Lists of all kinds, with their clocks, weighings and k."""
    source = chance(seed)
    found = []
    for n, k in shapes:
        for w in telling_weighings(n, seed)[1:4]:
            found.append((n, w, k, list_of(n, w, chance_sheet(source, n, k, source.randrange(1, 8)))))
            found.append((n, w, k, alike_list(source, n, w, k, 9)))
            found.append((n, w, k, (0,) + tuple(source.randrange(-9, 10) for _ in range(n ** k - 1))))
    return found


def no_lists():
    """Values that are no list for the clock 4 and k = 1."""
    good = (0, 3, 2, 3)
    wrong = odd_values() + [list(good), good[:-1], good + (0,), (1, 3, 2, 3), "0323", (good,), {0: good}, (0,) * 16]
    for thing in (True, False, None, "3", (3,), [3]):
        wrong.extend(good[:at] + (thing,) + good[at + 1:] for at in range(4))
    return wrong


class ReadBack(Case):
    def test_examples(self):
        self.run_examples("""
>>> w = (0, 1, 2, 1)
>>> from hoursheets.lists import counts_of
>>> counts = counts_of(4, w, ((1, 2),))
>>> from hoursheets.readback import judge_list, list_holds, read_back
>>> [read_back(4, w, 1, (0, 3, 2, 3)) == counts, judge_list(4, w, 1, (0, 3, 2, 3)) == ('counts', counts), read_back(4, w, 1, (0, 2, 1, 2)), list_holds(4, w, 1, (0, 2, 1, 2), ('column', (2,), (3, 4))), list_holds(4, w, 1, (0, 1, 2, 3), ('keeper', 3, (1,)))]
[True, True, (((1,), (1, 2)), ((2,), (3, 4))), True, True]
>>> read_back(4, w, 1, (0, 1, 2, 3))
raises Clash((1,))
""")

    def test_lists_of_sheets(self):
        source = chance(191)
        for n, k in SHAPES:
            for w in telling_weighings(n, 192):
                sheet = chance_sheet(source, n, k, source.randrange(1, 21))
                self.same(read_back(n, w, k, list_of(n, w, sheet)), counts_of(n, w, sheet))

    def test_lists_that_are_alike_on_keepers(self):
        source = chance(193)
        for n, k in SHAPES:
            for w in telling_weighings(n, 192)[:4]:
                for most in (1, 10 ** 12 - 1):
                    weights = alike_list(source, n, w, k, most)
                    found = read_back(n, w, k, weights)
                    self.same(is_counts(n, w, k, found), True)
                    self.same(list_of_counts(n, w, k, found), tuple((weight, 1) for weight in weights))

    def test_against_all_equations_at_once(self):
        source = chance(195)
        for n, k in SMALL_SHAPES:
            for w in telling_weighings(n, 192)[1:4]:
                weights = alike_list(source, n, w, k, 20)
                self.same(read_back(n, w, k, weights), plain_read_back(n, w, k, weights))

    def test_counts_with_fractions_below_and_above_0_come_back(self):
        source = chance(197)
        for n, k in SHAPES:
            for w in telling_weighings(n, 192)[:3]:
                columns = plain_columns(n, w, k)
                numbers = [Fraction(source.randrange(-5, 6), source.choice((1, 2, 3, 4, 6))) for column in columns]
                # Twelve times the counts have integers as their list.
                counts = in_pairs(zip(columns, numbers))
                weights = tuple(int(12 * item) for item in plain_list(n, w, k, counts))
                expected = in_pairs((column, 12 * number) for column, number in zip(columns, numbers))
                self.same(read_back(n, w, k, weights), expected)

    def test_just_one_tuple_of_counts_has_a_list(self):
        for n, w, k in (
            (2, (0, 3), 2), (3, (0, 1, 2), 1), (4, ROUND, 1), (4, (0, 2, 1, 2), 1), (5, (0, 1, 2, 2, 1), 1),
        ):
            columns = plain_columns(n, w, k)
            halves = [Fraction(top, 2) for top in range(-4, 5)]
            having = {}
            for numbers in itertools.product(halves, repeat=len(columns)):
                counts = in_pairs(zip(columns, numbers))
                weights = tuple(plain_list(n, w, k, counts))
                self.assertNotIn(weights, having)
                having[weights] = counts
                if all(weight.denominator == 1 for weight in weights):
                    self.same(read_back(n, w, k, tuple(int(weight) for weight in weights)), counts)

    def test_the_list_of_zeros(self):
        for n, k in SHAPES:
            w = (0,) + (1,) * (n - 1)
            zeros = (0,) * n ** k
            self.same([read_back(n, w, k, zeros), judge_list(n, w, k, zeros)], [(), ("counts", ())])
            self.same(list_holds(n, w, k, zeros, ("counts", ())), True)
            self.same(list_holds(n, w, k, (0,) + (1,) * (n ** k - 1), ("counts", ())), False)

    def test_sheets_with_one_list_are_exchanged(self):
        for n, w, k, length in [
            (2, (0, 1), 2, 2), (3, (0, 1, 1), 1, 3), (3, (0, 1, 2), 1, 3), (4, ROUND, 1, 2), (4, (0, 1, 2, 3), 1, 2),
        ]:
            sheets = sheets_of(n, k, length)
            for one in sheets:
                for other in sheets:
                    like = list_of(n, w, one) == list_of(n, w, other)
                    self.assertEqual(like, counts_of(n, w, one) == counts_of(n, w, other))
                    self.assertEqual(like, judge_made(n, w, one, other)[0] == "made")

    def test_clashes(self):
        source = chance(199)
        for n, k in SHAPES:
            for w in telling_weighings(n, 192):
                if plain_keepers(n, w) == [1]:
                    continue
                items = list(alike_list(source, n, w, k, 5))
                items[source.randrange(1, n ** k)] += 100
                found = clashes(n, w, k, items)
                if found:
                    self.raises(Clash(min(x for u, x in found)), read_back, n, w, k, tuple(items))
                    self.assertEqual(judge_list(n, w, k, tuple(items))[0], "keeper")
        self.raises(Clash((0, 1)), read_back, 3, (0, 1, 1), 2, (0, 1, 2, 3, 4, 5, 6, 7, 8))
        self.raises(Clash((1, 0)), read_back, 3, (0, 1, 1), 2, (0, 1, 1, 3, 4, 5, 6, 7, 8))
        self.raises(Clash((1, 2)), read_back, n=3, w=(0, 1, 1), k=2, weights=(0, 1, 1, 3, 4, 5, 3, 6, 4))


class Certificates(Case):
    def check(self, n, w, k, weights):
        found = judge_list(n, w, k, weights)
        self.assertIs(type(found), tuple)
        if clashes(n, w, k, weights):
            self.assertEqual((found[0], len(found)), ("keeper", 3))
        else:
            counts = read_back(n, w, k, weights)
            often = all(number[0] > 0 and number[1] == 1 for column, number in counts)
            self.assertEqual((found[0], len(found)), ("counts", 2) if often else ("column", 3))
        self.assertTrue(is_right(n, w, k, weights, found), (n, w, k, weights, found))
        self.same(list_holds(n, w, k, weights, found), True)
        return found

    def test_small_lists(self):
        kinds = {self.check(*case)[0] for case in small_lists(201, SMALL_SHAPES)}
        self.assertEqual(kinds, {"counts", "column", "keeper"})

    def test_all_certificates_of_a_list(self):
        for n, w, k, weights in small_lists(202, [(2, 1), (2, 2), (3, 1), (4, 1), (5, 1), (6, 1), (3, 2), (8, 1)]):
            things = [("keeper", u, x) for u in range(n) for x in rows_of(n, k)]
            clashing = bool(clashes(n, w, k, weights))
            counts = () if clashing else read_back(n, w, k, weights)
            for column in rows_of(n, k):
                numbers = [number for own, number in counts] + [(1, 1), (-1, 1), (1, 2), (0, 1), (2, 4), (-2, 2)]
                things.extend(("column", column, number) for number in numbers)
            others = (counts, counts[1:], counts + counts[-1:], counts[::-1])
            things.extend(("counts", other) for other in others)
            held = [thing for thing in things if list_holds(n, w, k, weights, thing)]
            # The equations are solved just once for all of them.
            told = () if clashing else plain_read_back(n, w, k, weights)
            expected = [
                thing for thing in things
                if (thing[1:] in told and (thing[2][0] < 0 or thing[2][1] > 1) if thing[0] == "column"
                    else is_right(n, w, k, weights, thing))
            ]
            self.assertEqual(held, expected)
            self.assertEqual(len({thing[0] for thing in held}), 1)

    def test_the_first_kind_is_that_of_sheets(self):
        for n, w, k, length in [(2, (0, 1), 2, 3), (3, (0, 1, 2), 1, 3), (4, ROUND, 1, 3), (5, (0, 1, 2, 2, 1), 1, 3)]:
            sheets = {list_of(n, w, sheet) for sheet in sheets_of(n, k, length)}
            most = max(max(weights) for weights in sheets)
            for weights in itertools.product(range(most + 1), repeat=n ** k - 1):
                found = judge_list(n, w, k, (0,) + weights)
                if found[0] == "counts" and sum(number[0] for column, number in found[1]) <= length:
                    self.assertIn((0,) + weights, sheets)
                else:
                    self.assertNotIn((0,) + weights, sheets)

    def test_certificates_with_one_part_changed(self):
        for n, w, k, weights in small_lists(203, [(2, 2), (3, 1), (4, 1), (3, 2), (6, 1), (9, 1)]):
            found = judge_list(n, w, k, weights)
            for thing in with_another_integer(found, (0, 1, n, 10 ** 29)):
                self.same(list_holds(n, w, k, weights, thing), is_right(n, w, k, weights, thing))
            for thing in misshapen(found):
                self.same(list_holds(n, w, k, weights, thing), False)

    def test_any_value_as_certificate(self):
        wrong = odd_values() + [
            ("counts",), ("counts", None), ("counts", (((1,), (1, 1)),)), ("column", (1,), (1, 2), 0),
            ("column", (1,), (2, 4)),
            ("column", (3,), (1, 2)), ("column", (1,), (True, 2)), ("column", (True,), (1, 2)), ("keeper", 3, (1,)),
            ("keeper", 1, (1,)), ("keeper", 2, (1,)), ("keeper", 3, (0,)), ("keeper", 3, (4,)), ("keeper", -1, (1,)),
            ("counts", (((1,), (1, 2)), ((2,), (3, 4)))), ("column", (1,), (3, 4)), ("column", 1, 2),
            ("keeper", None, None),
        ]
        for thing in wrong:
            self.same(list_holds(4, ROUND, 1, (0, 2, 1, 2), thing), False)
        self.same(list_holds(4, ROUND, 1, (0, 2, 1, 2), ("column", (1,), (1, 2))), True)
        self.same(list_holds(4, ROUND, 1, (0, 1, 2, 3), ("keeper", 3, (3,))), True)
        for thing in (
            ("keeper", True, (1,)), ("keeper", 3, (True,)), ("keeper", 3, [1]), ("keeper", 3, (1, 1)),
            ("keeper", 1, (1,)),
        ):
            self.same(list_holds(4, ROUND, 1, (0, 1, 2, 3), thing), False)

    def test_a_list_that_clashes_has_no_counts(self):
        for u, x in clashes(4, ROUND, 1, (0, 1, 2, 3)):
            self.same(list_holds(4, ROUND, 1, (0, 1, 2, 3), ("keeper", u, x)), True)
        for column in ((1,), (2,)):
            for number in itertools.product(range(-9, 10), range(1, 9)):
                self.same(list_holds(4, ROUND, 1, (0, 1, 2, 3), ("column", column, number)), False)


class Wrong(Case):
    def test_wrong_weighings_and_lists(self):
        good = {"n": 4, "w": ROUND, "k": 1, "weights": (0, 3, 2, 3)}
        for function, more in [(function, {}) for function in FUNCTIONS] + [(list_holds, {"thing": None})]:
            self.refuses(BadWeighing, function, {**good, **more}, "w", no_weighings())
            self.refuses(BadList, function, {**good, **more}, "weights", no_lists())
            self.raises(BadList((0, 3, 2, 3)), function, **{**good, **more, "k": 2})

    def test_weighings_that_lose(self):
        for n, w in losers():
            if n > 15:
                continue
            for function, more in [
                (function, {}) for function in FUNCTIONS] + [(list_holds, {"thing": ("counts", ())}),
            ]:
                # It is told ahead of a clash.
                for weights in ((0,) * n, tuple(range(n))):
                    with self.assertRaises(Loses) as held:
                        function(n=n, w=w, k=1, weights=weights, **more)
                    certificate = held.exception.certificate
                    self.assertEqual(certificate[0], "loses")
                    self.same(weighing_holds(n, w, certificate), True)

    def test_the_first_error_of_two(self):
        lost = (0, 3, 1, 2, 1, 3)
        for function, more in [(function, {}) for function in FUNCTIONS] + [(list_holds, {"thing": None})]:
            self.raises(BadWeighing(0), function, n=6, w=0, k=1, weights=None, **more)
            self.raises(BadList(None), function, n=6, w=lost, k=1, weights=None, **more)
            self.raises(BadList((0, 1)), function, n=6, w=lost, k=1, weights=(0, 1), **more)
