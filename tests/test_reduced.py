"""Tests of reduced sheets [2.1] and orders of words [2.3]."""

from hoursheets.annulled import annulled
from hoursheets.errors import BadSheet
from hoursheets.reduced import is_reduced, many_words, orders_of_words, reduced, same_words, words_of
from tests.helper import (
    Case, chance, large_sheets, no_sheets, odd_values, plain_word, plain_words, sheets_of, small_sheets,
)


def left_by(n, rows, row):
    """What is left of a row when the rows, the last ones of a reduced sheet, are taken away greedily."""
    left = list(row)
    for other in rows:
        at = next(k for k, hour in enumerate(other) if hour)
        number = left[at] // other[at]
        left = [(a - number * b) % n for a, b in zip(left, other)]
    return left


def is_reduced_by_the_words_of_the_document(n, sheet):
    """[2.1] word by word, for a value that is a sheet."""
    if len(sheet) == 1 and not any(sheet[0]):
        return True
    if not all(any(row) for row in sheet):
        return False
    leads = [next(k for k, hour in enumerate(row) if hour) for row in sheet]
    if leads != sorted(set(leads)):
        return False
    # From the last row on: then the rows behind are known to be such that taking away greedily is right.
    for k in reversed(range(len(sheet))):
        d = sheet[k][leads[k]]
        if n % d != 0 or any(row[leads[k]] >= d for row in sheet[:k]):
            return False
        if any(left_by(n, sheet[k + 1:], [n // d * hour % n for hour in sheet[k]])):
            return False
    return True


def plain_order(n, word):
    return next(k for k in range(1, n + 1) if not any(k * hour % n for hour in word))


class Reduced(Case):
    def test_examples(self):
        self.run_examples("""
>>> from hoursheets.reduced import is_reduced, many_words, orders_of_words, reduced, same_words, words_of
>>> sheet = ((2, 1),)
>>> [reduced(4, sheet), many_words(4, sheet), words_of(4, sheet), orders_of_words(4, sheet), is_reduced(4, sheet), same_words(4, sheet, ((2, 3), (0, 2)))]
[((2, 1), (0, 2)), 4, ((0, 0), (0, 2), (2, 1), (2, 3)), ((1, 1), (2, 1), (4, 2)), False, True]
""")

    def test_one_reduced_sheet_for_the_same_words(self):
        for n in (2, 3, 4, 5, 6):
            by_words = {}
            for sheet in sheets_of(n, 1, 2) + sheets_of(n, 2, 2) + sheets_of(n, 3, 1):
                words = (len(sheet[0]), frozenset(plain_words(n, sheet)))
                found = reduced(n, sheet)
                self.same(by_words.setdefault(words, found), found)
                self.assertEqual(plain_words(n, found), set(words[1]))
                self.assertTrue(is_reduced_by_the_words_of_the_document(n, found), (n, sheet, found))
            self.assertEqual(len(set(by_words.values())), len(by_words))

    def test_reduced_sheets_of_many_clocks(self):
        for n, sheet in small_sheets(21, 300):
            found = reduced(n, sheet)
            self.assertTrue(is_reduced_by_the_words_of_the_document(n, found), (n, sheet, found))
            self.assertEqual(plain_words(n, found), plain_words(n, sheet))
            self.same(reduced(n, found), found)

    def test_is_reduced_for_all_small_sheets(self):
        for n in (2, 3, 4, 6, 8):
            for sheet in sheets_of(n, 1, 2) + sheets_of(n, 2, 2) + sheets_of(n, 3, 1) + sheets_of(n, 1, 3):
                self.same(is_reduced(n, sheet), is_reduced_by_the_words_of_the_document(n, sheet))

    def test_is_reduced_for_any_value(self):
        for thing in no_sheets():
            self.same(is_reduced(4, thing), False)
        for thing in odd_values():
            for n in (2, 30):
                self.same(is_reduced(n, thing), False)
        self.same([is_reduced(4, [(2, 1), (0, 2)]), is_reduced(4, ((2, 1), [0, 2]))], [False, False])
        self.same([is_reduced(4, ((2, True), (0, 2))), is_reduced(4, ((2, 1), (False, 2)))], [False, False])
        self.same([is_reduced(4, ((2, 1), (0, 2))), is_reduced(4, ((0, 2), (2, 1)))], [True, False])
        self.same([is_reduced(4, ((0, 0),)), is_reduced(4, ((0, 0), (0, 0)))], [True, False])

    def test_sheets_of_zeros(self):
        for n in (2, 12, 30):
            for length in (1, 2, 20):
                for many in (1, 3, 20):
                    sheet = ((0,) * length,) * many
                    self.same(reduced(n, sheet), ((0,) * length,))
                    self.same([many_words(n, sheet), words_of(n, sheet)], [1, ((0,) * length,)])
                    self.same(orders_of_words(n, sheet), ((1, 1),))

    def test_rows_of_1_hour(self):
        for n in range(2, 31):
            for hour in range(1, n):
                d = max(d for d in range(1, n) if n % d == 0 and hour % d == 0)
                self.same(reduced(n, ((hour,),)), ((d,),))
                self.same(words_of(n, ((hour,),)), tuple((a,) for a in range(0, n, d)))

    def test_large_sheets(self):
        for n, sheet in large_sheets(22, 60):
            found = reduced(n, sheet)
            self.assertTrue(is_reduced_by_the_words_of_the_document(n, found))
            for row in sheet:
                self.assertFalse(any(left_by(n, found, row)))
            # The number of words tells that there are none but those of the sheet.
            self.same(many_words(n, sheet) * many_words(n, annulled(n, sheet)), n ** len(sheet[0]))
            self.assertTrue(is_reduced(n, found))
            self.assertTrue(same_words(n, sheet, found))
            self.same(sum(many for _, many in orders_of_words(n, sheet)), many_words(n, sheet))

    def test_mixed_rows_have_the_same_words(self):
        source = chance(23)
        for n, sheet in large_sheets(24, 30):
            mixed = list(sheet)
            for _ in range(12):
                one, other = source.randrange(len(mixed)), source.randrange(len(mixed))
                if one != other:
                    mixed[one] = plain_word(n, (mixed[one], mixed[other]), (1, source.randrange(n)))
            source.shuffle(mixed)
            self.same(reduced(n, tuple(mixed)), reduced(n, sheet))
            self.same(same_words(n, sheet, tuple(mixed)), True)

    def test_a_sheet_of_20_rows(self):
        for n in (2, 12, 30):
            unit_table = annulled(n, ((0,) * 20,))
            self.same(unit_table, tuple(tuple(int(j == k) for j in range(20)) for k in range(20)))
            self.same([reduced(n, unit_table), is_reduced(n, unit_table)], [unit_table, True])
            self.same(many_words(n, unit_table), n ** 20)
            orders = dict(orders_of_words(n, unit_table))
            self.same(sum(orders.values()), n ** 20)
            self.same([orders[1], orders[2]], [1, 2 ** 20 - 1])

    def test_words(self):
        for n, sheet in small_sheets(25, 200):
            words = tuple(sorted(plain_words(n, sheet)))
            self.same(words_of(n, sheet), words)
            self.same(many_words(n, sheet), len(words))

    def test_five_thousand_words(self):
        sheet = ((1,) * 20, (0,) * 10 + (1,) * 10, (0,) * 19 + (6,))
        self.same(len(set(words_of(30, sheet))), 30 * 30 * 5)
        bits = tuple((0,) * k + (1,) * (20 - k) for k in range(12))
        self.same(len(set(words_of(2, bits))), 2 ** 12)

    def test_orders_of_words(self):
        for n, sheet in small_sheets(26, 200):
            orders = [plain_order(n, word) for word in plain_words(n, sheet)]
            self.same(orders_of_words(n, sheet), tuple((k, orders.count(k)) for k in sorted(set(orders))))

    def test_words_whose_order_divides(self):
        for n, sheet in small_sheets(27, 60):
            for t in [t for t in range(1, n + 1) if n % t == 0]:
                dividing = sum(many for k, many in orders_of_words(n, sheet) if t % k == 0)
                times = tuple(tuple(t * hour % n for hour in row) for row in sheet)
                self.same(dividing * many_words(n, times), many_words(n, sheet))

    def test_same_words(self):
        for n in (2, 3, 4):
            sheets = sheets_of(n, 1, 2) + sheets_of(n, 2, 1) + sheets_of(n, 1, 1) + sheets_of(n, 2, 2)[::5]
            for one in sheets:
                for other in sheets:
                    self.same(same_words(n, one, other), plain_words(n, one) == plain_words(n, other))
        self.same(same_words(6, ((0,),), ((0, 0),)), False)

    def test_wrong_sheets(self):
        for function in (reduced, many_words, words_of, orders_of_words):
            self.refuses(BadSheet, function, {"n": 4}, "sheet", no_sheets())
        good = {"n": 4, "one": ((1, 2),), "other": ((1,), (2,))}
        self.refuses(BadSheet, same_words, good, "one", no_sheets())
        self.refuses(BadSheet, same_words, good, "other", no_sheets())

    def test_the_first_wrong_sheet_is_told(self):
        self.raises(BadSheet([(0,)]), same_words, 4, [(0,)], None)
        self.raises(BadSheet(((4,),)), same_words, 4, ((4,),), ((5,),))
        self.raises(BadSheet(((5,),)), same_words, 4, ((3,),), ((5,),))
