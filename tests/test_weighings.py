"""Tests of weighings [4.1], those alike on units [4.4] and some weighings [4.5]."""

from fractions import Fraction
from math import gcd

from hoursheets.errors import BadRow, BadWeighing
from hoursheets.weighings import (
    classes, depth_sums, is_alike_on_units, is_weighing, keepers, level_weighing, plain_weighing, round_weighing,
    square_weighing, weight_of, weight_table,
)
from tests.helper import (
    CLOCKS, LONGEST, Case, chance, no_rows, no_weighings, plain_divisors, plain_sign, plain_units, weighings_of,
)

OF_A_WEIGHING = (keepers, classes, weight_table, is_alike_on_units, depth_sums)


class Weighings(Case):
    def test_examples(self):
        self.run_examples("""
>>> from hoursheets.weighings import classes, depth_sums, keepers, level_weighing, round_weighing, weight_of, weight_table
>>> w = round_weighing(6)
>>> [w, level_weighing(6), keepers(6, w), classes(6, w), weight_table(6, w), depth_sums(6, level_weighing(6)), weight_of(6, w, (2, 3, 0))]
[(0, 1, 2, 3, 2, 1), (0, 1, 3, 4, 3, 1), (1, 5), ((1, 5), (2, 4), (3,)), ((1, 2, 3), (2, 2, 0), (3, 0, 3)), (-6, -3, -4), 5]
""")

    def test_is_weighing(self):
        for thing in [(0, 1, 2, 1), (0, 1, 1, 1), (0, 10 ** 6, 1, 10 ** 6), (0, 3, 2, 1)]:
            self.same(is_weighing(4, thing), True)
        for thing in no_weighings():
            self.same(is_weighing(4, thing), False)
        for n in CLOCKS:
            for w in weighings_of(n, 71):
                self.same(is_weighing(n, w), True)
                self.same([is_weighing(n, w + (1,)), is_weighing(n, w[:-1]), is_weighing(n, list(w))], [False] * 3)

    def test_items_from_1_to_a_million(self):
        for n in CLOCKS:
            for item, right in ((0, False), (1, True), (10 ** 6, True), (10 ** 6 + 1, False), (-1, False)):
                self.same(is_weighing(n, (0,) + (1,) * (n - 2) + (item,)), right)
            self.same(is_weighing(n, (1,) * n), False)

    def test_plain_round_and_square_weighings(self):
        for n in CLOCKS:
            rounds = [a if a <= n - a else n - a for a in range(n)]
            self.same(plain_weighing(n), tuple(int(a != 0) for a in range(n)))
            self.same(round_weighing(n), tuple(rounds))
            self.same(square_weighing(n), tuple(a ** 2 for a in rounds))

    def test_level_weighings(self):
        for n in CLOCKS:
            w = level_weighing(n)
            shares = []
            for a in range(1, n):
                m = n // gcd(a, n)
                shares.append(1 - Fraction(plain_sign(m), len(plain_units(m))))
            for a in range(1, n):
                self.assertEqual(w[a] * shares[0], w[1] * shares[a - 1])
            self.assertEqual((w[0], gcd(*w)), (0, 1))
            self.assertTrue(is_weighing(n, w))

    def test_averages_of_level_weighings(self):
        for n in CLOCKS:
            w = level_weighing(n)
            averages = {Fraction(sum(w[::d]), n // d) for d in plain_divisors(n)[:-1]}
            self.assertEqual(len(averages), 1)
            self.same(is_alike_on_units(n, w), True)

    def test_level_weighings_of_prime_clocks_are_plain(self):
        for n in (2, 3, 5, 7, 11, 13, 17, 19, 23, 29):
            self.same(level_weighing(n), plain_weighing(n))
        self.same(level_weighing(4), (0, 1, 2, 1))

    def test_weights_of_rows(self):
        source = chance(72)
        for n in CLOCKS:
            for w in weighings_of(n, 73):
                row = tuple(source.randrange(n) for _ in range(source.randrange(1, 21)))
                self.same(weight_of(n, w, row), sum(w[a] for a in row))
                self.same(weight_of(n, w, (0,) * 20), 0)
        self.same(weight_of(2, (0, 10 ** 6), (1,) * 20), 2 * 10 ** 7)
        self.same(weight_of(4, (0, 1, 2, 3), (2,)), 2)

    def test_keepers(self):
        for n in CLOCKS:
            for w in weighings_of(n, 74):
                found = keepers(n, w)
                self.same(found, tuple(u for u in plain_units(n) if all(w[u * a % n] == w[a] for a in range(n))))
                for u in found:
                    for v in found:
                        self.assertIn(u * v % n, found)

    def test_classes(self):
        for n in CLOCKS:
            for w in weighings_of(n, 75):
                kept = [u for u in plain_units(n) if all(w[u * a % n] == w[a] for a in range(n))]
                expected = sorted({tuple(sorted({u * a % n for u in kept})) for a in range(1, n)})
                self.same(classes(n, w), tuple(expected))
                self.assertEqual(sorted(a for members in expected for a in members), list(range(1, n)))

    def test_classes_stand_in_the_order_of_their_least_hours(self):
        self.same(classes(8, (0, 1, 2, 3, 4, 1, 2, 3)), ((1, 5), (2,), (3, 7), (4,), (6,)))
        self.same(keepers(8, (0, 1, 2, 3, 4, 1, 2, 3)), (1, 5))

    def test_weight_tables(self):
        for n in CLOCKS:
            for w in weighings_of(n, 76):
                least = [members[0] for members in classes(n, w)]
                table = weight_table(n, w)
                self.same(table, tuple(tuple(w[a * b % n] for b in least) for a in least))
                self.same(table, tuple(zip(*table)))

    def test_alike_on_units(self):
        for n in CLOCKS:
            for w in weighings_of(n, 77):
                alike = all(w[u * a % n] == w[a] for u in plain_units(n) for a in range(n))
                self.same(is_alike_on_units(n, w), alike)
                if not alike:
                    self.same(depth_sums(n, w), None)

    def test_depth_sums(self):
        for n in CLOCKS:
            source = chance(78 + n)
            weights = {d: source.randrange(1, 10 ** 6 + 1) for d in plain_divisors(n)}
            depths = (0,) + tuple(weights[gcd(a, n)] for a in range(1, n))
            for w in (plain_weighing(n), level_weighing(n), depths):
                below = plain_divisors(n)[:-1]
                expected = [sum(plain_sign(n // b) * w[b] for b in below if b % a == 0) for a in below]
                self.same(depth_sums(n, w), tuple(expected))

    def test_depth_sums_of_plain_and_level_weighings_are_not_0(self):
        for n in CLOCKS:
            self.assertNotIn(0, depth_sums(n, plain_weighing(n)))
            self.assertNotIn(0, depth_sums(n, level_weighing(n)))

    def test_weighings_of_the_least_clock(self):
        for item in (1, 10 ** 6):
            w = (0, item)
            self.same([keepers(2, w), classes(2, w), weight_table(2, w)], [(1,), ((1,),), ((item,),)])
            self.same([is_alike_on_units(2, w), depth_sums(2, w)], [True, (-item,)])

    def test_wrong_weighings(self):
        for function in OF_A_WEIGHING:
            self.refuses(BadWeighing, function, {"n": 4}, "w", no_weighings())
        self.refuses(BadWeighing, weight_of, {"n": 4, "row": (0, 1)}, "w", no_weighings())

    def test_wrong_rows(self):
        self.refuses(BadRow, weight_of, {"n": 4, "w": (0, 1, 2, 1)}, "row", no_rows())

    def test_the_first_error_of_two(self):
        self.raises(BadWeighing([0]), weight_of, 4, [0], [0])
        self.raises(BadWeighing((0, 1)), weight_of, 4, (0, 1), (4,))
        self.raises(BadRow((4,)), weight_of, 4, (0, 1, 2, 1), (4,))
        self.raises(BadRow(LONGEST + (0,)), weight_of, 4, (0, 1, 2, 1), LONGEST + (0,))
