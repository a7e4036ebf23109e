"""Tests of numbers over divisors [1.2] and of the table of a clock [1.3]."""

from math import gcd

from hoursheets.sums import depth_table, sign_number, sum_number, unit_number
from tests.helper import Case, chance


def plain_divisors(m):
    return [d for d in range(1, m + 1) if m % d == 0]


def plain_sign(m):
    """The sign numbers of all divisors of m but 1 together, turned."""
    return 1 if m == 1 else -sum(plain_sign(d) for d in plain_divisors(m)[:-1])


def plain_sum(m, a):
    return sum(d * plain_sign(m // d) for d in plain_divisors(m) if a % d == 0)


class Sums(Case):
    def test_examples(self):
        self.run_examples("""
>>> from hoursheets.sums import depth_table, sign_number, sum_number, unit_number
>>> [sign_number(30), sign_number(12), unit_number(12), sum_number(6, 2), sum_number(6, 0), depth_table(4)]
[-1, 0, 4, -1, 2, ((0, -1, 1), (-2, 1, 1), (2, 1, 1))]
""")

    def test_sign_and_unit_numbers_of_small_integers(self):
        for m in range(1, 200):
            self.same(sign_number(m), plain_sign(m))
            self.same(unit_number(m), len([k for k in range(1, m + 1) if gcd(k, m) == 1]))

    def test_numbers_at_1(self):
        self.same([sign_number(1), unit_number(1), sum_number(1, 0), sum_number(1, 7)], [1, 1, 1, 1])

    def test_numbers_at_large_integers(self):
        self.same([sign_number(10 ** 6), unit_number(10 ** 6)], [0, 400000])
        self.same([sign_number(999983), unit_number(999983)], [-1, 999982])
        self.same([sign_number(997 * 991), unit_number(997 * 991)], [1, 996 * 990])
        self.same([sign_number(997 * 997), unit_number(997 * 997)], [0, 997 * 996])
        self.same([sign_number(510510), unit_number(510510)], [-1, 92160])
        self.same([sign_number(2 ** 19), unit_number(2 ** 19)], [0, 2 ** 18])

    def test_sum_numbers_of_small_integers(self):
        for m in range(1, 50):
            for a in range(-60, 61):
                self.same(sum_number(m, a), plain_sum(m, a))

    def test_sum_numbers_at_0_and_below(self):
        for m in (1, 2, 12, 30, 97, 10 ** 6):
            self.same(sum_number(m, 0), unit_number(m))
            self.same(sum_number(m, -m), unit_number(m))
            self.same(sum_number(m, -1), sign_number(m))
            self.same(sum_number(m, 1), sign_number(m))

    def test_sum_numbers_of_long_integers(self):
        a = 10 ** 29 + 6
        for m in (1, 6, 30, 360, 999983, 10 ** 6):
            self.same(sum_number(m, a), sum_number(m, gcd(m, a)))
            self.same(sum_number(m, -a), sum_number(m, gcd(m, a)))
        self.same(sum_number(10 ** 6, 10 ** 29), 400000)
        self.same(sum_number(10 ** 6, 5 * 10 ** 5), -400000)

    def test_sum_number_depends_on_the_common_divisor(self):
        source = chance(12)
        for _ in range(200):
            m, a = source.randrange(1, 10 ** 4), source.randrange(-10 ** 30 + 1, 10 ** 30)
            g = gcd(m, a)
            self.same(sum_number(m, a), sum(d * sign_number(m // d) for d in plain_divisors(g)))

    def test_sum_numbers_of_a_row_of_hours_add_up_to_0(self):
        for m in range(2, 40):
            self.same(sum(sum_number(m, a) for a in range(m)), 0)

    def test_depth_table(self):
        for n in range(2, 31):
            depths = plain_divisors(n)
            self.same(depth_table(n), tuple(tuple(plain_sum(n // d, e) for d in depths) for e in depths))

    def test_depth_table_times_itself(self):
        for n in range(2, 31):
            table = depth_table(n)
            size = range(len(table))
            for i in size:
                for k in size:
                    self.same(sum(table[i][j] * table[j][k] for j in size), n if i == k else 0)

    def test_depth_table_of_the_least_clock(self):
        self.same(depth_table(2), ((-1, 1), (1, 1)))
