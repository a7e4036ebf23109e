"""Tests of the clock of four in bits [12.4]."""

import itertools

from hoursheets.bits import bit_words, bits_of, open_pair, row_of_bits
from hoursheets.errors import BadRow, BadSheet
from hoursheets.weighings import round_weighing, weight_of
from hoursheets.weights import distance
from tests.helper import (
    LONGEST, Case, chance, chance_sheet, no_rows, no_sheets, odd_values, plain_words, rows_of,
)

BITS = {0: (0, 0), 1: (0, 1), 2: (1, 1), 3: (1, 0)}
ROUND = round_weighing(4)


def plain_bits(row):
    return sum((BITS[hour] for hour in row), ())


def twice(one, other):
    return tuple(2 * a * b % 4 for a, b in zip(one, other))


def plain_open_pairs(sheet):
    """All pairs of numbers of rows whose row of twice their products is no word, ascending."""
    words = plain_words(4, sheet)
    pairs = itertools.combinations(range(len(sheet)), 2)
    return [(i, j) for i, j in pairs if twice(sheet[i], sheet[j]) not in words]


def are_closed(sheet):
    """Whether the sum of the bits of any two words are the bits of a word."""
    words = {plain_bits(word) for word in plain_words(4, sheet)}
    return all(tuple((a + b) % 2 for a, b in zip(one, other)) in words for one in words for other in words)


def sheets_of_four(seed, many):
    source = chance(seed)
    return [chance_sheet(source, 4, source.randrange(1, 4), source.randrange(1, 6)) for _ in range(many)]


class Bits(Case):
    def test_examples(self):
        self.run_examples("""
>>> from hoursheets.bits import bit_words, bits_of, open_pair, row_of_bits
>>> [bits_of((2, 1, 0, 3)), row_of_bits((1, 0, 1, 1)), open_pair(((1, 0, 1), (0, 1, 1))), open_pair(((1, 1),)), bit_words(((2, 1),))]
[(1, 1, 0, 1, 0, 0, 1, 0), (3, 2), (0, 1), None, ((0, 0, 0, 0), (0, 0, 1, 1), (1, 1, 0, 1), (1, 1, 1, 0))]
""")

    def test_short_rows(self):
        for length in (1, 2, 3, 4):
            for row in rows_of(4, length):
                self.same(bits_of(row), plain_bits(row))
                self.same(row_of_bits(plain_bits(row)), row)

    def test_all_bits_are_those_of_a_row(self):
        for many in (2, 4, 6):
            for bits in itertools.product((0, 1), repeat=many):
                self.same(bits_of(row_of_bits(bits)), bits)

    def test_rows_of_20_hours(self):
        source = chance(701)
        for row in [LONGEST, (3,) * 20, (0,) * 20] + [tuple(source.choices(range(4), k=20)) for _ in range(20)]:
            self.same(bits_of(row), plain_bits(row))
            self.assertEqual(len(bits_of(row)), 40)
            self.same(row_of_bits(bits_of(row)), row)

    def test_round_weights_and_distances(self):
        source = chance(702)
        for length in (1, 2, 5, 20):
            for _ in range(60):
                one, other = (tuple(source.choices(range(4), k=length)) for _ in range(2))
                self.same(weight_of(4, ROUND, one), sum(bits_of(one)))
                unlike = sum(a != b for a, b in zip(bits_of(one), bits_of(other)))
                self.same(distance(4, ROUND, one, other), unlike)


class Closed(Case):
    def test_bit_words(self):
        for sheet in sheets_of_four(711, 30):
            self.same(bit_words(sheet), tuple(sorted(plain_bits(word) for word in plain_words(4, sheet))))

    def test_they_stand_in_the_order_of_bits(self):
        # 3 stands ahead of 2 here, as 1 0 does ahead of 1 1.
        self.same(bit_words(((1,),)), ((0, 0), (0, 1), (1, 0), (1, 1)))
        self.same(bit_words(((0,) * 20,)), ((0,) * 40,))

    def test_many_words(self):
        sheet = tuple(tuple(int(i == j) for j in range(20)) for i in range(5))[:4] + ((0,) * 19 + (2,),)
        self.assertEqual(len(bit_words(sheet)), 512)

    def test_open_pairs_of_small_sheets(self):
        found = set()
        for sheet in sheets_of_four(712, 60):
            pairs = plain_open_pairs(sheet)
            self.same(open_pair(sheet), pairs[0] if pairs else None)
            if len(plain_words(4, sheet)) <= 64:
                self.assertEqual(are_closed(sheet), not pairs)
                found.add((bool(pairs), len(sheet) > 1))
        self.assertEqual(found, {(False, False), (False, True), (True, True)})

    def test_the_least_pair(self):
        one, two, three = (1, 0, 0, 1, 0), (0, 0, 2, 0, 0), (0, 1, 0, 1, 0)
        self.same(open_pair((one, two, three)), (0, 2))
        self.same(open_pair((two, one, three)), (1, 2))
        self.same(open_pair((one, three, three, one)), (0, 1))
        self.same(open_pair((two, two, one)), None)
        # The row of twice the products comes of another row.
        self.same(open_pair((one, three, (0, 0, 0, 2, 0))), None)
        self.same(open_pair((one, three, (0, 0, 0, 1, 0))), None)

    def test_a_single_row_and_the_row_of_zeros(self):
        for row in rows_of(4, 3):
            self.same(open_pair((row,)), None)
            self.assertTrue(are_closed((row,)))
        self.same(open_pair(((0, 0),) * 20), None)

    def test_large_sheets(self):
        source = chance(713)
        for rows in (2, 3, 4, 5):
            for _ in range(8):
                sheet = chance_sheet(source, 4, rows, 20)
                pairs = plain_open_pairs(sheet)
                self.same(open_pair(sheet), pairs[0] if pairs else None)
                # With the rows of twice the products beneath it a sheet is closed.
                more = tuple(twice(a, b) for a, b in itertools.combinations(sheet, 2))
                self.same(open_pair(sheet + more), None)
        full = tuple(tuple(int(i == j) for j in range(20)) for i in range(20))
        self.same(open_pair(full), None)


class Wrong(Case):
    def test_wrong_rows_and_sheets(self):
        self.refuses(BadRow, bits_of, {}, "row", no_rows())
        self.refuses(BadSheet, open_pair, {}, "sheet", no_sheets() + [((4,) * 20,) * 20])
        self.refuses(BadSheet, bit_words, {}, "sheet", no_sheets())
        self.same([bits_of(row=(3,)), row_of_bits(thing=(1, 1))], [(1, 0), (2,)])
        self.same([open_pair(sheet=((1, 1),)), bit_words(sheet=((2,),))], [None, ((0, 0), (1, 1))])

    def test_wrong_bits(self):
        wrong = odd_values() + [
            (0,), (1,), (0, 1, 1), (1,) * 39, (1,) * 41, (0,) * 42, (1, 0) * 21, (0, 2), (2, 0), (0, -1), (1, True),
            (False, 0), (True, False), (0, None), (0, "1"), (0, (1,)), ((0, 1),), ((0, 1), (1, 0)), [0, 1], "01",
            (0, 10 ** 39), {0: 1, 1: 0}, (1, 0, 1, [0]), (0,) * 21, (0,) * 3000,
        ]
        self.refuses(BadRow, row_of_bits, {}, "thing", wrong)
        self.same(row_of_bits((1, 0) * 20), (3,) * 20)
        self.same(row_of_bits((0, 0)), (0,))
