"""Tests of weights of words [5.1], of tame weighings [5.2] and of all weights together [5.3]."""

from collections import Counter
from fractions import Fraction

from hoursheets.annulled import annulled
from hoursheets.errors import BadRow, BadSheet, BadWeighing, OtherLengths
from hoursheets.reduced import many_words
from hoursheets.weights import (
    distance, is_mirrored, is_tame, least_weight, lightest, many_of_weight, total_weight, untame_pair,
)
from tests.helper import (
    CLOCKS, LONGEST, Case, chance, chance_sheet, large_sheets, no_rows, no_sheets, no_weighings, plain_weight,
    plain_words,
    rows_of, small_sheets, weighings_of,
)

OF_A_SHEET = (many_of_weight, least_weight, lightest, total_weight)
OF_A_WEIGHING = (untame_pair, is_tame, is_mirrored)


def plain_untame(n, w):
    found = [(a, b) for a in range(n) for b in range(n) if w[(a + b) % n] > w[a] + w[b]]
    return min(found) if found else None


def less(n, one, other):
    return tuple((b - a) % n for a, b in zip(one, other))


class Weights(Case):
    def check(self, n, w, sheet):
        """Whether the weights of the words of a sheet are told as a plain going-through tells them."""
        words = plain_words(n, sheet)
        others = [(plain_weight(w, word), word) for word in words if any(word)]
        expected = tuple(sorted(Counter(plain_weight(w, word) for word in words).items()))
        self.same(many_of_weight(n, w, sheet), expected)
        self.same(least_weight(n, w, sheet), min(others)[0] if others else None)
        self.same(lightest(n, w, sheet), min(others)[1] if others else None)
        self.same(total_weight(n, w, sheet), sum(weight for weight, _ in others))

    def test_examples(self):
        self.run_examples("""
>>> from hoursheets.weights import distance, is_mirrored, is_tame, least_weight, lightest, many_of_weight, total_weight, untame_pair
>>> sheet, w = ((2, 1),), (0, 1, 2, 1)
>>> [many_of_weight(4, w, sheet), least_weight(4, w, sheet), lightest(4, w, sheet), total_weight(4, w, sheet), distance(4, w, (0, 0), (2, 3)), least_weight(4, w, ((0, 0),))]
[((0, 1), (2, 1), (3, 2)), 2, (0, 2), 8, 3, None]
>>> [is_tame(4, w), untame_pair(4, (0, 1, 3, 1)), is_mirrored(4, w), is_mirrored(4, (0, 1, 2, 3))]
[True, (1, 1), True, False]
""")

    def test_small_sheets(self):
        source = chance(91)
        for n, sheet in small_sheets(92, 150):
            for w in source.choices(weighings_of(n, 93), k=3):
                self.check(n, w, sheet)

    def test_all_clocks(self):
        source = chance(94)
        for n in CLOCKS:
            for w in weighings_of(n, 95):
                self.check(n, w, chance_sheet(source, n, 1, source.randrange(1, 21)))

    def test_sheets_with_one_word_alone(self):
        for n in (2, 12, 30):
            for sheet in (((0,),), ((0,) * 20,), ((0,) * 20,) * 6, ((0, 0),) * 20):
                for w in weighings_of(n, 96)[:2]:
                    self.same(many_of_weight(n, w, sheet), ((0, 1),))
                    self.same([least_weight(n, w, sheet), lightest(n, w, sheet)], [None, None])
                    self.same(total_weight(n, w, sheet), 0)

    def test_few_words_of_many_multipliers(self):
        for n in (4, 6, 30):
            row = tuple(n // 2 * (k % 2) for k in range(20))
            w = (0,) + (10 ** 6,) * (n - 1)
            sheet = (row,) * 6
            self.same(many_of_weight(n, w, sheet), ((0, 1), (10 ** 7, 1)))
            self.same([least_weight(n, w, sheet), lightest(n, w, sheet)], [10 ** 7, row])
            self.same(total_weight(n, w, sheet), 10 ** 7)

    def test_nearly_5000_words(self):
        for n, many in ((2, 12), (3, 7), (8, 4), (17, 3), (29, 2)):
            source = chance(97 + n)
            front = [tuple(int(k == at) for k in range(many)) for at in range(many)]
            sheet = tuple(row + tuple(source.choices(range(n), k=20 - many)) for row in front)
            self.assertEqual(many_words(n, sheet), n ** many)
            w = weighings_of(n, 98)[4]
            found = many_of_weight(n, w, sheet)
            self.assertEqual(list(found), sorted(set(found)))
            self.assertEqual(sum(times for _, times in found), n ** many)
            self.assertEqual(sum(weight * times for weight, times in found), total_weight(n, w, sheet))
            self.assertEqual((found[0], found[1][0]), ((0, 1), least_weight(n, w, sheet)))
            self.assertEqual(plain_weight(w, lightest(n, w, sheet)), found[1][0])

    def test_the_lightest_word_is_the_least_one_of_its_weight(self):
        self.same(lightest(4, (0, 1, 1, 1), ((1, 0), (0, 1))), (0, 1))
        self.same(lightest(4, (0, 3, 4, 2), ((1, 0), (0, 1))), (0, 3))
        self.same(lightest(4, (0, 3, 2, 2), ((1, 0), (0, 1))), (0, 2))
        self.same(lightest(n=4, w=(0, 5, 10, 5), sheet=((2, 1),)), (0, 2))

    def test_total_weights_of_very_many_words(self):
        for n, sheet in large_sheets(99, 60):
            for w in weighings_of(n, 100)[:5]:
                total = Fraction(0)
                for column in zip(*sheet):
                    hours = self.reached(n, column)
                    total += Fraction(sum(w[a] for a in hours), len(hours))
                self.same(total_weight(n, w, sheet), int(total * many_words(n, sheet)))
                self.assertEqual((total * many_words(n, sheet)).denominator, 1)

    def reached(self, n, column):
        """The hours that sums of multiples of the hours of a column are."""
        found = {0}
        for hour in column:
            found = {(a + k * hour) % n for a in found for k in range(n)}
        return found

    def test_the_sheet_of_all_rows_and_sheets_of_20_rows(self):
        for n in (2, 6, 30):
            sheet = annulled(n, ((0,) * 20,))
            self.assertEqual(len(sheet), 20)
            w = weighings_of(n, 101)[4]
            self.same(total_weight(n, w, sheet), 20 * n ** 19 * sum(w))

    def test_the_least_weight_is_at_most_the_average_one(self):
        for n, sheet in small_sheets(102, 80):
            for w in weighings_of(n, 103)[:5]:
                if many_words(n, sheet) > 1:
                    average = Fraction(total_weight(n, w, sheet), many_words(n, sheet) - 1)
                    self.assertLessEqual(least_weight(n, w, sheet), average)

    def test_wrong_arguments(self):
        for function in OF_A_SHEET:
            self.refuses(BadWeighing, function, {"n": 4, "sheet": ((2, 1),)}, "w", no_weighings())
            self.refuses(BadSheet, function, {"n": 4, "w": (0, 1, 2, 1)}, "sheet", no_sheets())
            self.raises(BadWeighing([0]), function, 4, [0], [0])
            self.raises(BadWeighing((0, 1)), function, n=4, w=(0, 1), sheet=((4,),))
            self.raises(BadSheet(((True,),)), function, n=4, w=(0, 1, 1, 1), sheet=((True,),))


class Distances(Case):
    def test_all_pairs_of_short_rows(self):
        for n in (2, 3, 4, 5, 6):
            rows = rows_of(n, 2)
            for w in weighings_of(n, 104):
                for one in rows:
                    for other in rows:
                        self.same(distance(n, w, one, other), plain_weight(w, less(n, one, other)))

    def test_long_rows(self):
        source = chance(105)
        for n in CLOCKS:
            for w in weighings_of(n, 106):
                one, other = (tuple(source.choices(range(n), k=20)) for _ in range(2))
                self.same(distance(n, w, one, other), plain_weight(w, less(n, one, other)))
                self.same(distance(n, w, one, one), 0)

    def test_from_the_one_to_the_other(self):
        w = (0, 1, 2, 5)
        self.same([distance(4, w, (0,), (3,)), distance(4, w, (3,), (0,))], [5, 1])
        self.same([distance(4, w, one=(0,), other=(1,)), distance(4, w, other=(0,), one=(1,))], [1, 5])

    def test_tame_and_mirrored_weighings(self):
        for n in (3, 4, 5, 6):
            rows = rows_of(n, 2)[::2]
            for w in weighings_of(n, 107):
                for one in rows:
                    for other in rows:
                        there = distance(n, w, one, other)
                        if is_mirrored(n, w):
                            self.assertEqual(there, distance(n, w, other, one))
                        if is_tame(n, w):
                            for third in rows:
                                more = distance(n, w, other, third)
                                self.assertLessEqual(distance(n, w, one, third), there + more)

    def test_wrong_rows(self):
        good = {"n": 4, "w": (0, 1, 2, 1), "one": (0, 1), "other": (2, 3)}
        self.refuses(BadWeighing, distance, good, "w", no_weighings())
        self.refuses(BadRow, distance, good, "one", no_rows())
        self.refuses(BadRow, distance, good, "other", no_rows())
        for row in ((0,), (0, 0, 0), LONGEST):
            self.raises(OtherLengths(), distance, **{**good, "one": row})
            self.raises(OtherLengths(), distance, **{**good, "other": row})

    def test_the_first_error_of_two(self):
        self.raises(BadWeighing(0), distance, 4, 0, 0, 0)
        self.raises(BadRow((4,)), distance, 4, (0, 1, 2, 1), (4,), [1])
        self.raises(BadRow([1]), distance, 4, (0, 1, 2, 1), (1, 1), [1])
        self.raises(OtherLengths(), distance, 4, (0, 1, 2, 1), (1, 1), (1,))


class Tame(Case):
    def test_all_weighings_with_small_items(self):
        for n in (2, 3, 4, 5, 6):
            for rest in rows_of(3, n - 1):
                w = (0,) + tuple(item + 1 for item in rest)
                expected = plain_untame(n, w)
                self.same([untame_pair(n, w), is_tame(n, w)], [expected, expected is None])
                self.same(is_mirrored(n, w), all(w[a] == w[n - a] for a in range(1, n)))

    def test_all_clocks(self):
        for n in CLOCKS:
            for w in weighings_of(n, 108) + [(0,) + tuple(range(1, n)), (0,) + tuple(range(n - 1, 0, -1))]:
                expected = plain_untame(n, w)
                self.same([untame_pair(n, w), is_tame(n, w)], [expected, expected is None])
                self.same(is_mirrored(n, w), all(w[a] == w[n - a] for a in range(1, n)))

    def test_some_weighings(self):
        for n in CLOCKS:
            plain, rounds = weighings_of(n, 109)[:2]
            for w in (plain, rounds):
                self.same([is_tame(n, w), is_mirrored(n, w)], [True, True])
        self.same(untame_pair(8, (0, 1, 4, 9, 16, 9, 4, 1)), (1, 1))
        self.same(untame_pair(6, (0, 2, 2, 2, 5, 2)), (1, 3))
        self.same(untame_pair(2, (0, 10 ** 6)), None)
        self.same(untame_pair(3, (0, 10 ** 6, 1)), (2, 2))

    def test_wrong_weighings(self):
        for function in OF_A_WEIGHING:
            self.refuses(BadWeighing, function, {"n": 4}, "w", no_weighings())
