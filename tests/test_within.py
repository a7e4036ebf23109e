"""Tests of rows within sheets [2.2], and of the least rows of shelves [13.2]."""

from hoursheets.annulled import annulled
from hoursheets.errors import BadRow, BadSheet, OtherLengths
from hoursheets.reduced import reduced
from hoursheets.within import is_within, judge_within, least_on_shelf, within_holds
from tests.helper import (
    Case, chance, large_sheets, no_rows, no_sheets, odd_values, plain_annulled, plain_product, plain_word,
    plain_words, rows_of, small_sheets,
)

FUNCTIONS = (judge_within, is_within, least_on_shelf)


def is_right(n, sheet, row, certificate):
    """Whether a certificate of the right form is right, by its words in [2.2]."""
    kind, proof = certificate
    if kind == "sum":
        return len(proof) == len(sheet) and plain_word(n, sheet, proof) == row
    annuls = all(plain_product(n, own, proof) == 0 for own in sheet)
    return len(proof) == len(row) and annuls and plain_product(n, proof, row) != 0


class Within(Case):
    def check_certificate(self, n, sheet, row, kind):
        found = judge_within(n, sheet, row)
        self.assertEqual((type(found), len(found), found[0]), (tuple, 2, kind))
        self.assertTrue(all(type(hour) is int and 0 <= hour < n for hour in found[1]))
        self.assertIs(type(found[1]), tuple)
        self.assertTrue(is_right(n, sheet, row, found), (n, sheet, row, found))
        self.same(within_holds(n, sheet, row, found), True)
        return found

    def test_examples(self):
        self.run_examples("""
>>> sheet = ((2, 1),)
>>> from hoursheets.within import is_within, judge_within, least_on_shelf, within_holds
>>> [judge_within(4, sheet, (0, 2)), within_holds(4, sheet, (0, 1), ('barred', (1, 2))), within_holds(4, sheet, (0, 2), ('barred', (1, 2))), is_within(4, sheet, (0, 1)), least_on_shelf(4, sheet, (3, 3))]
[('sum', (2,)), True, False, False, (1, 0)]
>>> is_within(4, sheet, (0,))
raises OtherLengths()
""")

    def test_all_rows_of_small_spaces(self):
        for n, sheet in small_sheets(31, 60):
            words = plain_words(n, sheet)
            for row in rows_of(n, len(sheet[0])):
                self.check_certificate(n, sheet, row, "sum" if row in words else "barred")
                self.same(is_within(n, sheet, row), row in words)

    def test_certificates_are_of_just_one_kind(self):
        for n, sheet in [case for case in small_sheets(32, 80) if case[0] <= 8 and len(case[1][0]) <= 3]:
            if n ** len(sheet) > 300:
                continue
            sums = [("sum", x) for x in rows_of(n, len(sheet))]
            bars = [("barred", other) for other in rows_of(n, len(sheet[0]))]
            for row in rows_of(n, len(sheet[0]))[::7]:
                held = [thing for thing in sums + bars if within_holds(n, sheet, row, thing)]
                self.assertEqual(held, [thing for thing in sums + bars if is_right(n, sheet, row, thing)])
                self.assertEqual(len({thing[0] for thing in held}), 1)
                self.assertIn(judge_within(n, sheet, row), held)

    def test_large_sheets(self):
        source = chance(33)
        for n, sheet in large_sheets(34, 60):
            x = tuple(source.randrange(n) for _ in sheet)
            word = plain_word(n, sheet, x)
            self.check_certificate(n, sheet, word, "sum")
            self.same(is_within(n, sheet, word), True)
            self.same(within_holds(n, sheet, word, ("sum", x)), True)
            bar = annulled(n, sheet)[0]
            for at, hour in enumerate(bar):
                if hour != 0:
                    # The product with the bar tells that this row is no word.
                    row = word[:at] + ((word[at] + 1) % n,) + word[at + 1:]
                    self.check_certificate(n, sheet, row, "barred")
                    self.same(is_within(n, sheet, row), False)
                    self.same(within_holds(n, sheet, row, ("barred", bar)), True)

    def test_certificates_with_one_part_changed(self):
        source = chance(35)
        for n, sheet in small_sheets(36, 120):
            row = tuple(source.randrange(n) for _ in sheet[0])
            kind, proof = judge_within(n, sheet, row)
            for at in range(len(proof)):
                for hour in range(n):
                    thing = (kind, proof[:at] + (hour,) + proof[at + 1:])
                    self.same(within_holds(n, sheet, row, thing), is_right(n, sheet, row, thing))
                for hour in (n, -1, True, False, None, "0", (0,), [0], proof[at] + n, proof[at] - n):
                    thing = (kind, proof[:at] + (hour,) + proof[at + 1:])
                    self.same(within_holds(n, sheet, row, thing), False)
            other = {"sum": "barred", "barred": "sum"}[kind]
            self.same(within_holds(n, sheet, row, (other, proof)), False)
            for thing in (
                [kind, proof], (kind, list(proof)), (kind, proof, 0), (kind,), (proof, kind), (kind, proof + (0,)),
                (kind, proof[:-1]), (kind.upper(), proof), {kind: proof}, kind, proof, (None, proof), ([kind], proof),
                ((kind, proof),), (kind, (proof,)),
            ):
                self.same(within_holds(n, sheet, row, thing), False)

    def test_any_value_as_certificate(self):
        for thing in odd_values():
            for row in ((0, 2), (0, 1)):
                self.same(within_holds(4, ((2, 1),), row, thing), False)

    def test_a_bool_is_no_multiplier(self):
        self.same(within_holds(4, ((2, 1),), (2, 1), ("sum", (1,))), True)
        self.same(within_holds(4, ((2, 1),), (2, 1), ("sum", (True,))), False)
        self.same(within_holds(4, ((2, 2),), (0, 1), ("barred", (1, 1))), True)
        self.same(within_holds(4, ((2, 2),), (0, 1), ("barred", (True, 1))), False)

    def test_the_sheet_of_zeros(self):
        for n in (2, 12, 30):
            for length in (1, 20):
                zeros, ones = (0,) * length, (1,) * length
                self.check_certificate(n, (zeros,), zeros, "sum")
                self.check_certificate(n, (zeros,), ones, "barred")
                self.same(least_on_shelf(n, (zeros,), ones), ones)

    def test_a_sheet_of_20_rows(self):
        for n, sheet in large_sheets(37, 10):
            full = annulled(n, ((0,) * 20,))
            self.assertEqual(len(full), 20)
            row = tuple(k * k % n for k in range(20))
            self.check_certificate(n, full, row, "sum")
            self.same(least_on_shelf(n, full, row), (0,) * 20)
            behind = annulled(n, sheet)
            self.check_certificate(n, behind, behind[-1], "sum")

    def test_least_on_shelf(self):
        for n, sheet in small_sheets(38, 60):
            words = plain_words(n, sheet)
            for row in rows_of(n, len(sheet[0]))[::3]:
                shelf = [tuple((a + b) % n for a, b in zip(row, word)) for word in words]
                self.same(least_on_shelf(n, sheet, row), min(shelf))

    def test_least_on_large_shelves(self):
        source = chance(39)
        for n, sheet in large_sheets(40, 40):
            row = tuple(source.randrange(n) for _ in sheet[0])
            least = least_on_shelf(n, sheet, row)
            self.assertTrue(is_within(n, sheet, tuple((a - b) % n for a, b in zip(row, least))))
            self.assertLessEqual(least, row)
            for _ in range(20):
                word = plain_word(n, sheet, [source.randrange(n) for _ in sheet])
                other = tuple((a + b) % n for a, b in zip(row, word))
                self.assertLessEqual(least, other)
                self.same(least_on_shelf(n, sheet, other), least)

    def test_shelves_part_the_rows(self):
        for n, sheet in small_sheets(41, 30):
            rows = rows_of(n, len(sheet[0]))
            shelves = {least_on_shelf(n, sheet, row) for row in rows}
            self.assertEqual(len(shelves) * len(plain_words(n, sheet)), len(rows))

    def test_barred_exactly_by_annulled_rows(self):
        for n, sheet in [case for case in small_sheets(42, 40) if case[0] <= 9]:
            annuls = plain_annulled(n, sheet)
            words = plain_words(n, sheet)
            for row in rows_of(n, len(sheet[0]))[::5]:
                self.assertEqual(any(plain_product(n, row, bar) for bar in annuls), row not in words)

    def test_wrong_sheets_and_rows(self):
        good = {"n": 4, "sheet": ((2, 1),), "row": (0, 2)}
        for function, more in [(function, {}) for function in FUNCTIONS] + [(within_holds, {"thing": ("sum", (2,))})]:
            self.refuses(BadSheet, function, {**good, **more}, "sheet", no_sheets())
            self.refuses(BadRow, function, {**good, **more}, "row", no_rows())
            for row in ((0,), (0, 2, 0), (0,) * 20):
                self.raises(OtherLengths(), function, **{**good, **more, "row": row})

    def test_the_first_error_of_two(self):
        for function, more in [(function, {}) for function in FUNCTIONS] + [(within_holds, {"thing": None})]:
            self.raises(BadSheet(None), function, n=4, sheet=None, row=None, **more)
            self.raises(BadSheet(((0, 1), (0,))), function, n=4, sheet=((0, 1), (0,)), row=(0,), **more)
            self.raises(BadSheet([(0,)]), function, n=4, sheet=[(0,)], row=(0, 0), **more)
            self.raises(BadRow((4,)), function, n=4, sheet=((2, 1),), row=(4,), **more)
            self.raises(BadRow((True, 0)), function, n=4, sheet=((2, 1),), row=(True, 0), **more)
            self.raises(OtherLengths(), function, n=4, sheet=((2, 1),), row=(0,), **more)

    def test_reduced_sheets_take_the_same_rows_in(self):
        for n, sheet in small_sheets(43, 30):
            for row in rows_of(n, len(sheet[0]))[::11]:
                self.same(is_within(n, reduced(n, sheet), row), is_within(n, sheet, row))
