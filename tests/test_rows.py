"""Tests of rows and sheets [1.4]."""

from hoursheets.errors import BadRow, BadSheet, OtherLengths
from hoursheets.rows import (
    columns_of, is_row, is_sheet, row_multiple, row_product, row_sum, sheet_of, word_of,
)
from tests.helper import (
    LONGEST, Case, chance, chance_sheet, no_rows, no_sheets, plain_word, rows_of, small_sheets,
)

class Rows(Case):
    def test_examples(self):
        self.run_examples("""
>>> from hoursheets.rows import columns_of, row_multiple, row_product, row_sum, sheet_of, word_of
>>> sheet = ((1, 2, 0), (0, 3, 1))
>>> [row_sum(6, (1, 5), (2, 3)), row_product(6, (1, 5), (2, 3)), row_multiple(6, -1, (1, 0)), word_of(6, sheet, (2, 1)), columns_of(6, sheet), sheet_of(6, ((1, 0), (2, 3), (0, 1))) == sheet]
[(3, 2), 5, (5, 0), (2, 1, 1), ((1, 0), (2, 3), (0, 1)), True]
>>> row_sum(6, (1,), (1, 2))
raises OtherLengths()
""")

    def test_is_row(self):
        for thing in [(0,), (3,), (0, 1, 2, 3), LONGEST, (0,) * 20]:
            self.same(is_row(4, thing), True)
        for thing in no_rows():
            self.same(is_row(4, thing), False)
        for n in range(2, 31):
            self.same([is_row(n, (0, n - 1)), is_row(n, (0, n)), is_row(n, (-1, 0))], [True, False, False])

    def test_is_sheet(self):
        for thing in [((0,),), ((0, 3),), ((0,), (3,)), (LONGEST,), (LONGEST,) * 20, ((1,),) * 20]:
            self.same(is_sheet(4, thing), True)
        for thing in no_sheets():
            self.same(is_sheet(4, thing), False)
        for n in range(2, 31):
            self.same([is_sheet(n, ((0,), (n - 1,))), is_sheet(n, ((0,), (n,)))], [True, False])

    def test_sums_and_products_of_rows(self):
        for n in (2, 3, 4, 6):
            for one in rows_of(n, 2):
                for other in rows_of(n, 2):
                    self.same(row_sum(n, one, other), tuple((a + b) % n for a, b in zip(one, other)))
                    self.same(row_product(n, one, other), (one[0] * other[0] + one[1] * other[1]) % n)

    def test_multiples_of_rows(self):
        for number in (0, 1, -1, 3, 4, 29, -31, 10 ** 29 + 1, -(10 ** 30 - 1)):
            for n in (2, 4, 9, 30):
                row = tuple(k * 7 % n for k in range(20))
                self.same(row_multiple(n, number, row), tuple(number * a % n for a in row))
                self.same(row_multiple(n, number, (n - 1,)), (-number % n,))

    def test_rows_of_1_and_of_20_hours(self):
        self.same([row_sum(4, (3,), (2,)), row_product(4, (3,), (2,))], [(1,), 2])
        self.same(row_sum(4, LONGEST, LONGEST), tuple(2 * a % 4 for a in LONGEST))
        self.same(row_product(4, LONGEST, LONGEST), sum(a * a for a in LONGEST) % 4)

    def test_words(self):
        source = chance(14)
        for n, sheet in small_sheets(14, 60):
            x = tuple(source.randrange(n) for _ in sheet)
            self.same(word_of(n, sheet, x), plain_word(n, sheet, x))
            self.same(word_of(n, sheet, (0,) * len(sheet)), (0,) * len(sheet[0]))
        sheet = chance_sheet(source, 30, 20, 20)
        x = tuple(source.randrange(30) for _ in sheet)
        self.same(word_of(30, sheet, x), plain_word(30, sheet, x))

    def test_columns_and_sheets(self):
        for n, sheet in small_sheets(15, 60):
            columns = tuple(tuple(row[at] for row in sheet) for at in range(len(sheet[0])))
            self.same(columns_of(n, sheet), columns)
            self.same(sheet_of(n, columns), sheet)
        square = tuple(tuple((j * k) % 30 for j in range(20)) for k in range(20))
        self.same(columns_of(30, square), square)
        self.same(sheet_of(30, (tuple(range(20)),)), tuple((k,) for k in range(20)))
        self.same(columns_of(30, (tuple(range(20)),)), tuple((k,) for k in range(20)))

    def test_wrong_rows(self):
        good = {"n": 4, "one": (1, 2), "other": (3, 0)}
        for function in (row_sum, row_product):
            self.refuses(BadRow, function, good, "one", no_rows())
            self.refuses(BadRow, function, good, "other", no_rows())
        self.refuses(BadRow, row_multiple, {"n": 4, "number": 3}, "row", no_rows())

    def test_the_first_error_of_two(self):
        for function in (row_sum, row_product):
            self.raises(BadRow([1]), function, 4, [1], None)
            self.raises(BadRow((4,)), function, 4, (4,), (0, 0))
            self.raises(BadRow((0, True)), function, 4, (1,), (0, True))
            self.raises(OtherLengths(), function, 4, (1,), (0, 0))
            self.raises(OtherLengths(), function, 4, LONGEST, (0,))

    def test_wrong_sheets(self):
        self.refuses(BadSheet, word_of, {"n": 4, "multipliers": (1,)}, "sheet", no_sheets())
        self.refuses(BadSheet, columns_of, {"n": 4}, "sheet", no_sheets())
        self.refuses(BadSheet, sheet_of, {"n": 4}, "columns", no_sheets())

    def test_wrong_multipliers(self):
        good = {"n": 4, "sheet": ((1, 2, 0), (0, 3, 1), (2, 2, 2))}
        wrong = [thing for thing in no_rows() if not is_row(4, thing)] + [(1,), (1, 2), (1, 2, 3, 0), (1, 2, True)]
        self.refuses(BadRow, word_of, good, "multipliers", wrong)
        self.refuses(BadRow, word_of, {"n": 4, "sheet": (LONGEST,) * 20}, "multipliers", [(0,) * 19, (0,) * 21])

    def test_wrong_sheet_and_wrong_multipliers(self):
        self.raises(BadSheet([(0,)]), word_of, 4, [(0,)], [0])
        self.raises(BadSheet(((0,), (0, 0))), word_of, 4, ((0,), (0, 0)), (0,))
        self.raises(BadRow([0]), word_of, 4, ((0,),), [0])
