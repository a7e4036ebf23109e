"""Tests of annulled sheets [3.1], sums and meets [3.2], multiples and parts [3.3]."""

from hoursheets.annulled import (
    annulled, divided, has_words, is_annulled, meet_of, multiples_of, part_of, sum_of,
)
from hoursheets.errors import BadSheet, OtherLengths
from hoursheets.reduced import is_reduced, many_words, reduced
from tests.helper import (
    LONGEST, Case, chance, chance_sheet, large_sheets, no_rows, no_sheets, plain_annulled, plain_product, plain_word,
    plain_words, rows_of, small_sheets,
)

WITH_TWO = (sum_of, meet_of, has_words)
WITH_T = (multiples_of, part_of, divided)


def times(n, t, row):
    return tuple(t * hour % n for hour in row)


def small_pairs(seed, many):
    """Triples of a clock and two sheets of one length."""
    source = chance(seed)
    found = []
    for n, one in small_sheets(seed, many):
        found.append((n, one, chance_sheet(source, n, 1 if n > 9 else source.randrange(1, 3), len(one[0]))))
    return found


def large_pairs(seed, many):
    source = chance(seed)
    return [
        (n, one, chance_sheet(source, n, source.randrange(1, 7), len(one[0])))
        for n, one in large_sheets(seed, many)
    ]


class Annulled(Case):
    def has_just(self, n, sheet, words):
        """Whether a sheet is the reduced sheet with just these words."""
        self.assertTrue(is_reduced(n, sheet), (n, sheet))
        self.assertEqual(many_words(n, sheet), len(words))
        self.assertTrue(all(row in words for row in sheet))

    def test_examples(self):
        self.run_examples("""
>>> from hoursheets.annulled import annulled, divided, has_words, is_annulled, meet_of, multiples_of, part_of, sum_of
>>> one, other = ((2, 1),), ((0, 1),)
>>> [annulled(4, one), annulled(4, annulled(4, one)), is_annulled(4, one, (2, 0)), is_annulled(4, one, [2, 0]), sum_of(4, one, other), meet_of(4, one, other)]
[((1, 2),), ((2, 1), (0, 2)), True, False, ((2, 0), (0, 1)), ((0, 2),)]
>>> [multiples_of(4, one, 2), part_of(4, one, 2), divided(4, one, 2), has_words(4, one, ((0, 2),)), has_words(4, one, other)]
[((0, 2),), ((0, 2),), ((2, 0), (0, 1)), True, False]
""")

    def test_annulled_sheets_of_small_spaces(self):
        for n, sheet in small_sheets(51, 200):
            found = annulled(n, sheet)
            self.has_just(n, found, plain_annulled(n, sheet))
            self.same(annulled(n, found), reduced(n, sheet))
            self.same(many_words(n, sheet) * many_words(n, found), n ** len(sheet[0]))

    def test_annulled_sheets_of_large_sheets(self):
        for n, sheet in large_sheets(52, 60):
            found = annulled(n, sheet)
            self.assertTrue(is_reduced(n, found))
            for row in found:
                self.same(is_annulled(n, sheet, row), True)
            self.same(many_words(n, sheet) * many_words(n, found), n ** len(sheet[0]))
            self.same(annulled(n, found), reduced(n, sheet))

    def test_sheets_of_zeros_and_of_all_rows(self):
        for n in (2, 12, 30):
            for length in (1, 2, 20):
                zeros = ((0,) * length,)
                unit_table = tuple(tuple(int(j == k) for j in range(length)) for k in range(length))
                self.same(annulled(n, zeros), unit_table)
                self.same(annulled(n, unit_table), zeros)
                for t in (1, n, 30):
                    self.same([multiples_of(n, zeros, t), part_of(n, zeros, t)], [zeros, zeros])
                self.same([divided(n, zeros, 1), divided(n, zeros, n)], [zeros, unit_table])
                self.same([sum_of(n, zeros, unit_table), meet_of(n, zeros, unit_table)], [unit_table, zeros])
                self.same([has_words(n, unit_table, zeros), has_words(n, zeros, unit_table)], [True, False])

    def test_rows_of_1_hour(self):
        for n in range(2, 31):
            for d in [d for d in range(1, n) if n % d == 0]:
                self.same(annulled(n, ((d,),)), ((n // d % n,),))

    def test_is_annulled(self):
        for n, sheet in small_sheets(53, 100):
            annuls = plain_annulled(n, sheet)
            for row in rows_of(n, len(sheet[0])):
                self.same(is_annulled(n, sheet, row), row in annuls)

    def test_is_annulled_for_any_value(self):
        for thing in no_rows() + [(0,), (0, 0, 0), [0, 0], (0, False), ((0, 0),), LONGEST]:
            self.same(is_annulled(4, ((2, 1),), thing), False)
            self.same(is_annulled(4, ((0, 0),), thing), False)
        self.same([is_annulled(4, ((0, 0),), (3, 1)), is_annulled(4, ((0, 0),), (3, True))], [True, False])

    def test_sums_and_meets_of_small_spaces(self):
        for n, one, other in small_pairs(54, 120):
            words, more = plain_words(n, one), plain_words(n, other)
            sums = {tuple((a + b) % n for a, b in zip(x, y)) for x in words for y in more}
            self.has_just(n, sum_of(n, one, other), sums)
            self.has_just(n, meet_of(n, one, other), words & more)
            self.same(has_words(n, one, other), more <= words)
            self.same(has_words(n, other, one), words <= more)

    def test_sums_and_meets_of_large_sheets(self):
        for n, one, other in large_pairs(55, 40):
            together, both = sum_of(n, one, other), meet_of(n, one, other)
            self.assertTrue(is_reduced(n, together) and is_reduced(n, both))
            self.same(many_words(n, together) * many_words(n, both), many_words(n, one) * many_words(n, other))
            self.same(annulled(n, together), meet_of(n, annulled(n, one), annulled(n, other)))
            self.same(annulled(n, both), sum_of(n, annulled(n, one), annulled(n, other)))
            for sheet in (one, other):
                self.same([has_words(n, together, sheet), has_words(n, sheet, both)], [True, True])
            self.same(has_words(n, both, together), reduced(n, one) == reduced(n, other))

    def test_sheets_with_common_words(self):
        source = chance(56)
        for n, sheet in large_sheets(57, 30):
            extra = chance_sheet(source, n, 2, len(sheet[0]))
            word = plain_word(n, sheet, [source.randrange(n) for _ in sheet])
            self.same(has_words(n, sheet, (word,)), True)
            self.same(has_words(n, meet_of(n, sheet, extra + (word,)), (word,)), True)
            self.same([sum_of(n, sheet, sheet), meet_of(n, sheet, sheet)], [reduced(n, sheet)] * 2)
            self.same(sum_of(n, sheet, (word,)), reduced(n, sheet))
            self.same(meet_of(n, sheet, (word,)), reduced(n, (word,)))

    def test_multiples_and_parts_of_small_spaces(self):
        for n, sheet in small_sheets(58, 80):
            words = plain_words(n, sheet)
            for t in sorted({1, 2, 3, 4, 6, n - 1, n, 30}):
                self.has_just(n, multiples_of(n, sheet, t), {times(n, t, word) for word in words})
                self.has_just(n, part_of(n, sheet, t), {word for word in words if not any(times(n, t, word))})
                rows = rows_of(n, len(sheet[0]))
                self.has_just(n, divided(n, sheet, t), {row for row in rows if times(n, t, row) in words})

    def test_multiples_and_parts_of_large_sheets(self):
        for n, sheet in large_sheets(59, 30):
            for t in (1, 2, 6, 15, 30):
                found, part, rows = multiples_of(n, sheet, t), part_of(n, sheet, t), divided(n, sheet, t)
                self.assertTrue(is_reduced(n, found) and is_reduced(n, part) and is_reduced(n, rows))
                self.same(many_words(n, found) * many_words(n, part), many_words(n, sheet))
                self.same(annulled(n, found), divided(n, annulled(n, sheet), t))
                self.assertTrue(all(not any(times(n, t, row)) for row in part))
                self.same([has_words(n, sheet, part), has_words(n, rows, sheet)], [True, True])
                self.assertTrue(has_words(n, sheet, multiples_of(n, rows, t)))

    def test_t_of_1_and_of_30(self):
        for n, sheet in large_sheets(60, 20):
            zeros = ((0,) * len(sheet[0]),)
            self.same(multiples_of(n, sheet, 1), reduced(n, sheet))
            self.same(part_of(n, sheet, 1), zeros)
            self.same(divided(n, sheet, 1), reduced(n, sheet))
            if 30 % n == 0:
                self.same([multiples_of(n, sheet, 30), part_of(n, sheet, 30)], [zeros, reduced(n, sheet)])
                self.same(many_words(n, divided(n, sheet, 30)), n ** len(sheet[0]))
        self.same([multiples_of(7, ((1, 3),), 30), part_of(7, ((1, 3),), 30)], [((1, 3),), ((0, 0),)])

    def test_sheets_of_20_rows(self):
        for n, sheet in large_sheets(61, 10):
            full = annulled(n, ((0,) * len(sheet[0]),))
            self.assertEqual(len(full), len(sheet[0]))
            self.same(meet_of(n, full, sheet), reduced(n, sheet))
            self.same(sum_of(n, full, sheet), full)
            self.same([has_words(n, full, sheet), part_of(n, full, n), divided(n, full, 2)], [True, full, full])
            self.same(is_annulled(n, full, (0,) * len(sheet[0])), True)

    def test_products_of_words_and_annulled_words(self):
        for n, sheet in small_sheets(62, 40):
            for bar in annulled(n, sheet):
                self.assertFalse(any(plain_product(n, bar, word) for word in plain_words(n, sheet)))

    def test_wrong_sheets(self):
        self.refuses(BadSheet, annulled, {"n": 4}, "sheet", no_sheets())
        self.refuses(BadSheet, is_annulled, {"n": 4, "thing": (0, 0)}, "sheet", no_sheets())
        for function in WITH_T:
            self.refuses(BadSheet, function, {"n": 4, "t": 2}, "sheet", no_sheets())
        for function in WITH_TWO:
            good = {"n": 4, "one": ((2, 1),), "other": ((0, 1), (2, 2))}
            self.refuses(BadSheet, function, good, "one", no_sheets())
            self.refuses(BadSheet, function, good, "other", no_sheets())

    def test_the_first_error_of_two(self):
        for function in WITH_TWO:
            self.raises(BadSheet(None), function, 4, None, [(0,)])
            self.raises(BadSheet([(0,)]), function, 4, ((0, 1),), [(0,)])
            self.raises(BadSheet(((0,), (0, 1))), function, 4, ((0, 1),), ((0,), (0, 1)))
            self.raises(OtherLengths(), function, 4, ((0, 1),), ((0,),))
            self.raises(OtherLengths(), function, 4, ((0,),), (LONGEST,))
        self.raises(BadSheet([]), is_annulled, 4, [], None)
