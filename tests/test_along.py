"""Tests of weighings that are kept along [9.1], [9.3] and of certificates for them [9.2]."""

import itertools

from hoursheets.along import along_holds, is_along, judge_along
from hoursheets.errors import BadWeighing
from hoursheets.maps import is_sound, unkept_word
from hoursheets.telling import is_telling, judge_weighing, two_sheets
from hoursheets.weighings import plain_weighing
from tests.helper import (
    CLOCKS, Case, chance, losers, misshapen, most_hours, no_weighings, odd_values, plain_keepers, plain_least_hours,
    plain_rank,
    plain_table, plain_weight, rows_of, weighings_of, with_another_integer,
)

LOST = (0, 3, 1, 2, 1, 3)
FUNCTIONS = (judge_along, is_along)


def other_table(n, w, v):
    least = plain_least_hours(n, w)
    return [[v[a * b % n] for b in least] for a in least]


def unkept(n, w, v):
    """All pairs of a keeper of w and an hour that show that it is no keeper of v."""
    return [(u, a) for u in plain_keepers(n, w) for a in range(n) if v[u * a % n] != v[a]]


def plain_along(n, w, v):
    """Whether v is kept along with w: by its keepers, and by the ranks of tables beneath one another."""
    table = plain_table(n, w)
    return not unkept(n, w, v) and plain_rank(table + other_table(n, w, v)) == plain_rank(table)


def is_right(n, w, v, certificate):
    """Whether a certificate of the right form is right, by its words in [9.2]."""
    table, other = plain_table(n, w), other_table(n, w, v)
    size = range(len(table))
    if certificate[0] == "unit":
        return certificate[1:] in unkept(n, w, v)
    if certificate[0] == "counts":
        counts = certificate[1]
        images = [[sum(rows[i][j] * counts[j] for j in size) for i in size] for rows in (table, other)]
        return not any(images[0]) and any(images[1])
    rows, number = certificate[1:]
    return number >= 1 and not unkept(n, w, v) and all(
        sum(rows[i][j] * table[j][k] for j in size) == number * other[i][k] for i in size for k in size
    )


def made_of(n, w, factors):
    """The weighing that gives an hour the sum of what w gives to its products with some hours."""
    return tuple(sum(w[f * a % n] for f in factors) for a in range(n))


def pairs(seed):
    """Triples of a clock and two weighings, some of them kept along and some not."""
    source = chance(seed)
    found = []
    for n in CLOCKS:
        own = [w for clock, w in losers() if clock == n and max(w) <= 10 ** 5] + weighings_of(n, seed)
        for w in own:
            factors = [(1, source.randrange(n)), (1, n - 1, source.randrange(n))]
            others = [source.choice(own)] + [made_of(n, w, own_factors) for own_factors in factors]
            found.extend((n, w, v) for v in others if max(v) <= 10 ** 6)
    return found


class Along(Case):
    def check(self, n, w, v):
        found = judge_along(n, w, v)
        along = plain_along(n, w, v)
        size = len(plain_table(n, w))
        self.assertIs(type(found), tuple)
        if along:
            self.assertEqual((found[0], len(found), len(found[1])), ("by", 3, size))
            self.assertTrue(all(type(row) is tuple and len(row) == size for row in found[1]))
        else:
            self.assertIn((found[0], len(found)), [("unit", 3), ("counts", 2)])
        self.assertTrue(is_right(n, w, v, found), (n, w, v, found))
        self.same([along_holds(n, w, v, found), is_along(n, w, v)], [True, along])
        return found

    def test_examples(self):
        self.run_examples("""
>>> from hoursheets.along import along_holds, is_along
>>> w = (0, 3, 1, 2, 1, 3)
>>> [is_along(6, w, (0, 5, 2, 3, 2, 5)), is_along(6, w, (0, 1, 1, 1, 1, 1)), along_holds(6, w, (0, 1, 1, 1, 1, 1), ('counts', (1, -1, -1))), along_holds(6, w, (0, 1, 1, 1, 1, 2), ('unit', 5, 1))]
[True, False, True, True]
""")

    def test_all_clocks(self):
        kinds = {self.check(*case)[0] for case in pairs(221)[::2] if len(plain_table(*case[:2])) <= 14}
        self.assertEqual(kinds, {"by", "unit", "counts"})

    def test_many_classes(self):
        source = chance(222)
        for n in (16, 23, 29, 30):
            for most in (2, 10 ** 6):
                w, v = ((0,) + tuple(source.randrange(1, most + 1) for _ in range(n - 1)) for _ in range(2))
                self.check(n, w, v)
                self.check(n, w, w)

    def test_random_small_weighings(self):
        source = chance(223)
        kinds = set()
        for _ in range(300):
            n = source.randrange(2, 13)
            w, v = ((0,) + tuple(source.randrange(1, 4) for _ in range(n - 1)) for _ in range(2))
            kinds.add(self.check(n, w, v)[0])
            self.check(n, w, made_of(n, w, (1, source.randrange(n))))
        self.assertEqual(kinds, {"by", "unit", "counts"})

    def test_each_weighing_is_kept_along_with_itself(self):
        for n in CLOCKS:
            for w in weighings_of(n, 224)[:6]:
                self.same(is_along(n, w, w), True)
        for n, w in losers():
            self.same(is_along(n, w, w), True)
            size = range(len(plain_table(n, w)))
            unit_table = tuple(tuple(int(i == k) for k in size) for i in size)
            self.same(along_holds(n, w, w, ("by", unit_table, 1)), True)

    def test_weighings_that_tell_ask_for_the_keepers_alone(self):
        for n, w, v in pairs(225):
            if is_telling(n, w):
                self.same(is_along(n, w, v), not unkept(n, w, v))

    def test_it_goes_on(self):
        found = 0
        for n in (5, 6, 8, 10, 12):
            own = [w for clock, w in losers() if clock == n]
            own += [made_of(n, w, factors) for w in own for factors in ((1, 2), (1, 3), (1, n - 1), (1, 2, 4))]
            own = [w for w in own + weighings_of(n, 226)[:6] if max(w) <= 10 ** 6]
            along = {(i, j): is_along(n, w, v) for i, w in enumerate(own) for j, v in enumerate(own)}
            for i, j, k in itertools.product(range(len(own)), repeat=3):
                if along[i, j] and along[j, k]:
                    self.assertTrue(along[i, k])
                    found += 1
        self.assertGreater(found, 100)

    def test_short_maps_that_keep_w_keep_v_exactly_if_it_is_kept_along(self):
        for n, w in [(5, (0, 1, 1, 2, 2)), (6, LOST), (6, (0, 4, 2, 2, 2, 1)), (4, (0, 1, 2, 1)), (4, (0, 1, 2, 3))]:
            rows = rows_of(n, 2)
            kept = [
                ((one,), (other,)) for one in rows for other in rows
                if is_sound(n, (one,), (other,)) and unkept_word(n, w, (one,), (other,)) is None
            ]
            others = [made_of(n, w, factors) for factors in ((1, 2), (1, n - 1), (1, 3))] + weighings_of(n, 227)[:6]
            for v in others + [w, plain_weighing(n)]:
                broken = [pair for pair in kept if unkept_word(n, v, *pair) is not None]
                self.assertEqual(is_along(n, w, v), not broken)

    def test_counts_make_sheets_that_show_it(self):
        for n, w, v in pairs(228):
            found = judge_along(n, w, v)
            if found[0] == "counts" and most_hours(found[1]) <= 20:
                one, other = two_sheets(n, w, found[1])
                self.same(unkept_word(n, w, one, other), None)
                self.assertIsNotNone(unkept_word(n, v, one, other))
            if found[0] == "unit":
                u, a = found[1:]
                self.same(unkept_word(n, w, ((a,),), ((u * a % n,),)), None)
                self.assertNotEqual(plain_weight(v, (a,)), plain_weight(v, (u * a % n,)))

    def test_the_table_goes_by_the_classes_of_w(self):
        # All hours of w stand in classes of their own, those of v do not, and the other way round.
        self.same(is_along(5, (0, 1, 2, 3, 4), plain_weighing(5)), True)
        self.same(is_along(5, plain_weighing(5), (0, 1, 2, 3, 4)), False)
        self.assertEqual(judge_along(5, plain_weighing(5), (0, 1, 2, 3, 4))[0], "unit")

    def test_the_least_clock(self):
        for a, b in itertools.product((1, 7, 10 ** 6), repeat=2):
            self.same(is_along(2, (0, a), (0, b)), True)
            self.same(along_holds(2, (0, a), (0, b), ("by", ((b,),), a)), True)
            self.same(along_holds(2, (0, a), (0, b), ("by", ((b,),), a + 1)), False)
            self.same(along_holds(2, (0, a), (0, b), ("by", ((-b,),), -a)), False)
            self.same(along_holds(2, (0, a), (0, b), ("by", ((0,),), 0)), False)


class Certificates(Case):
    def test_certificates_are_of_the_first_kind_or_of_the_others(self):
        for n, w, v in [
            (3, (0, 1, 1), (0, 2, 2)), (3, (0, 1, 1), (0, 1, 2)), (3, (0, 1, 2), (0, 1, 1)),
            (6, LOST, (0, 5, 2, 3, 2, 5)),
            (6, LOST, plain_weighing(6)), (6, LOST, (0, 1, 1, 1, 1, 2)), (6, LOST, (0, 4, 1, 1, 1, 3)),
        ]:
            size = len(plain_table(n, w))
            things = [("unit", u, a) for u in range(-1, n + 1) for a in range(n)]
            things += [("counts", counts) for counts in itertools.product(range(-2, 3), repeat=size)]
            if size <= 2:
                tables = itertools.product(itertools.product(range(-2, 4), repeat=size), repeat=size)
                things += [("by", rows, number) for rows in tables for number in range(-2, 5)]
            things.append(judge_along(n, w, v))
            held = [thing for thing in things if along_holds(n, w, v, thing)]
            self.assertEqual(held, [thing for thing in things if is_right(n, w, v, thing)])
            kinds = {thing[0] for thing in held}
            self.assertTrue(kinds == {"by"} or kinds <= {"unit", "counts"} and kinds, kinds)
        self.assertEqual(kinds, {"unit", "counts"})

    def test_a_table_does_not_stand_for_keepers(self):
        # The rows are right, but 2 keeps the one weighing and not the other one.
        self.same(along_holds(3, (0, 1, 1), (0, 1, 2), ("by", ((1,),), 1)), False)
        self.same(along_holds(3, (0, 1, 1), (0, 1, 2), ("unit", 2, 1)), True)
        self.same(along_holds(3, (0, 1, 1), (0, 1, 1), ("by", ((1,),), 1)), True)

    def test_certificates_of_losing_weighings_with_more_than_one_table(self):
        for n, w in losers():
            if n <= 10:
                rows, number = judge_along(n, w, w)[1:]
                counts = judge_weighing(n, w)[1]
                other = tuple(tuple(item + number * add for item, add in zip(row, counts)) for row in rows)
                self.same(along_holds(n, w, w, ("by", other, number)), True)
                more = tuple(tuple(10 ** 20 * item for item in row) for row in other)
                self.same(along_holds(n, w, w, ("by", more, 10 ** 20 * number)), True)
                self.same(along_holds(n, w, w, ("counts", counts)), False)
                for v in weighings_of(n, 229)[:6]:
                    right = is_right(n, w, v, ("counts", counts))
                    for factor in (1, -1, 10 ** 28):
                        thing = ("counts", tuple(factor * count for count in counts))
                        self.same(along_holds(n, w, v, thing), right)

    def test_certificates_with_one_part_changed(self):
        for n, w, v in [
            (4, (0, 1, 2, 1), (0, 3, 1, 3)), (6, LOST, (0, 5, 2, 3, 2, 5)), (6, LOST, plain_weighing(6)),
            (6, LOST, (0, 1, 1, 1, 1, 2)),
            (5, (0, 1, 1, 2, 2), (0, 1, 2, 2, 1)), (5, (0, 1, 2, 2, 1), (0, 1, 1, 2, 2)), (2, (0, 1), (0, 1)),
        ]:
            found = judge_along(n, w, v)
            for thing in with_another_integer(found, (0, 1, n, 10 ** 29)):
                right = is_right(n, w, v, thing)
                self.same(along_holds(n, w, v, thing), right)
            for thing in misshapen(found):
                self.same(along_holds(n, w, v, thing), False)

    def test_any_value_as_certificate(self):
        wrong = odd_values() + [
            ("by",), ("by", (), 1), ("by", ((1,),), 0), ("unit",), ("unit", 5, 0), ("unit", 5, 6), ("unit", 5, -1),
            ("unit", 2, 1),
            ("unit", True, 1), ("unit", None, None), ("counts", ()), ("counts", (0, 0, 0)), ("counts", None),
            ("counts", (1, -1)),
        ]
        for thing in wrong:
            for v in (LOST, plain_weighing(6), (0, 1, 1, 1, 1, 2)):
                self.same(along_holds(6, LOST, v, thing), False)
        self.same(along_holds(6, LOST, (0, 1, 1, 1, 1, 2), ("unit", 5, 5)), True)
        self.same(along_holds(6, LOST, (0, 1, 1, 1, 1, 2), ("unit", 5, True)), False)


class Wrong(Case):
    def test_wrong_weighings(self):
        good = {"n": 4, "w": (0, 1, 2, 1), "v": (0, 1, 1, 1)}
        for function, more in [(function, {}) for function in FUNCTIONS] + [(along_holds, {"thing": None})]:
            self.refuses(BadWeighing, function, {**good, **more}, "w", no_weighings())
            self.refuses(BadWeighing, function, {**good, **more}, "v", no_weighings())
            self.raises(BadWeighing(0), function, **{**good, **more, "w": 0, "v": 1})
            self.raises(BadWeighing((0, 1)), function, **{**good, **more, "w": (0, 1), "v": None})
            self.raises(BadWeighing(None), function, **{**good, **more, "v": None})
