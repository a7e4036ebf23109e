"""Tests of clocks [1.1]."""

from hoursheets import clocks
from hoursheets.clocks import depth, divisors, inverse, is_clock, is_hour, is_unit, order, unit_between, units
from hoursheets.errors import BadHour
from tests.helper import Case, odd_values

CLOCKS = range(2, 31)


def no_integers():
    return [thing for thing in odd_values() if not isinstance(thing, int) or isinstance(thing, bool)]


def no_hours(n):
    return odd_values() + [n, n + 1, -1, -n, [1], (1,), "1"]


def no_units(n):
    return no_hours(n) + [0] + [d for d in range(2, n) if n % d == 0]


class Clocks(Case):
    def test_examples(self):
        self.run_examples("""
>>> from hoursheets.clocks import depth, divisors, inverse, order, unit_between, units
>>> [units(12), divisors(12), depth(12, 8), depth(12, 0), order(12, 8), inverse(12, 5), unit_between(12, 2, 10), unit_between(12, 2, 3)]
[(1, 5, 7, 11), (1, 2, 3, 4, 6, 12), 4, 12, 3, 5, 5, None]
""")

    def test_is_clock(self):
        for thing in range(-40, 60):
            self.same(is_clock(thing), 2 <= thing <= 30)
        for thing in odd_values():
            self.same(is_clock(thing), False)

    def test_is_hour_and_is_unit(self):
        for n in CLOCKS:
            for thing in range(-n - 2, 2 * n + 3):
                self.same(is_hour(n, thing), 0 <= thing < n)
                unit = 0 <= thing < n and any(thing * other % n == 1 for other in range(n))
                self.same(is_unit(n, thing), unit)
            for thing in no_hours(n) + no_integers():
                self.same(is_hour(n, thing), False)
                self.same(is_unit(n, thing), False)
            self.same([is_hour(n, 0), is_unit(n, 0), is_unit(n, 1), is_unit(n, n - 1)], [True, False, True, True])

    def test_units_and_divisors(self):
        for n in CLOCKS:
            self.same(units(n), tuple(a for a in range(n) if any(a * b % n == 1 for b in range(n))))
            self.same(divisors(n), tuple(d for d in range(1, n + 1) if any(d * b == n for b in range(n + 1))))

    def test_depth_and_order(self):
        for n in CLOCKS:
            self.same([depth(n, 0), order(n, 0)], [n, 1])
            for a in range(n):
                self.same(depth(n, a), max(d for d in range(1, n + 1) if n % d == 0 and a % d == 0))
                self.same(order(n, a), min(k for k in range(1, n + 1) if k * a % n == 0))

    def test_like_depths_are_units_times_one_another(self):
        for n in CLOCKS:
            for a in range(n):
                for b in range(n):
                    fitting = [u for u in units(n) if u * a % n == b]
                    self.same(unit_between(n, a, b), fitting[0] if fitting else None)
                    self.assertEqual(depth(n, a) == depth(n, b), bool(fitting))

    def test_unit_between_at_the_hour_0(self):
        for n in CLOCKS:
            self.same([unit_between(n, 0, 0), unit_between(n, 0, 1), unit_between(n, 1, 0)], [1, None, None])

    def test_inverse(self):
        for n in CLOCKS:
            for u in units(n):
                self.same(u * inverse(n, u) % n, 1)
                self.assertTrue(is_unit(n, inverse(n, u)))

    def test_wrong_hours(self):
        for n in (2, 7, 12, 30):
            self.refuses(BadHour, depth, {"n": n}, "hour", no_hours(n))
            self.refuses(BadHour, order, {"n": n}, "hour", no_hours(n))
            self.refuses(BadHour, inverse, {"n": n}, "unit", no_units(n))
            self.refuses(BadHour, unit_between, {"n": n, "other": 1}, "one", no_hours(n))
            self.refuses(BadHour, unit_between, {"n": n, "one": 1}, "other", no_hours(n))

    def test_the_first_wrong_hour_is_told(self):
        self.raises(BadHour(True), unit_between, 6, True, None)
        self.raises(BadHour(6), unit_between, 6, 6, 7)
        self.raises(BadHour("b"), unit_between, 6, 5, "b")

    def test_hours_just_outside(self):
        for n in CLOCKS:
            self.raises(BadHour(n), depth, n, n)
            self.raises(BadHour(-1), order, n, -1)
            self.raises(BadHour(0), inverse, n, 0)

    def test_least_and_largest_clock(self):
        self.assertEqual([clocks.LEAST_CLOCK, clocks.LARGEST_CLOCK], [2, 30])
        self.same([units(2), divisors(2), inverse(2, 1), depth(2, 1), order(2, 1)], [(1,), (1, 2), 1, 1, 2])
        self.same([units(30), divisors(30)], [(1, 7, 11, 13, 17, 19, 23, 29), (1, 2, 3, 5, 6, 10, 15, 30)])
