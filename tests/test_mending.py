"""Tests of nearest words [13.1], shelves [13.2], mending [13.3], and mending by least weights [13.4]."""

from hoursheets.errors import BadRow, BadSheet, BadWeighing, OtherLengths
from hoursheets.mending import judge_mending, lightest_on_shelf, mended, mending_holds, nearest
from hoursheets.reduced import many_words
from hoursheets.weighings import plain_weighing, round_weighing
from hoursheets.weights import is_mirrored, is_tame, least_weight
from hoursheets.within import is_within, least_on_shelf
from tests.helper import (
    CLOCKS, Case, chance, chance_sheet, misshapen, no_rows, no_sheets, no_weighings, odd_values, plain_weight,
    plain_words, rows_of, small_sheets, weighings_of, with_another_integer,
)

WITH_ROW = (nearest, lightest_on_shelf)
SHEET = ((1, 1, 1),)


def less(n, one, other):
    return tuple((a - b) % n for a, b in zip(one, other))


def plus(n, one, other):
    return tuple((a + b) % n for a, b in zip(one, other))


def weighed_sheets(seed, many):
    """Triples of a clock, a weighing and a small sheet."""
    source = chance(seed)
    found = []
    for n, sheet in small_sheets(seed, many):
        w = source.choice(weighings_of(n, seed))
        small = (0,) + tuple(source.randrange(1, 5) for _ in range(n - 1))
        found.append((n, source.choice((w, small, small)), sheet))
    return found


def plain_nearest(n, w, sheet, row):
    weights = {word: plain_weight(w, less(n, row, word)) for word in plain_words(n, sheet)}
    least = min(weights.values())
    return (least, tuple(sorted(word for word in weights if weights[word] == least)))


def plain_clashes(n, w, sheet, t):
    """All pairs of unlike rows that weigh at most t and lie on one shelf."""
    words = plain_words(n, sheet)
    light = [row for row in rows_of(n, len(sheet[0])) if plain_weight(w, row) <= t]
    return light, [(one, other) for one in light for other in light if one != other and less(n, one, other) in words]


def some_t(n, w, sheet):
    """Some integers at which it changes whether a sheet mends them."""
    weights = sorted({plain_weight(w, word) for word in plain_words(n, sheet)} | set(w))
    return sorted({0, 1} | {weight // 2 for weight in weights} | set(weights[:3]))[:7]


class Nearest(Case):
    def test_examples(self):
        self.run_examples("""
>>> from hoursheets.mending import judge_mending, lightest_on_shelf, mended, mending_holds, nearest
>>> sheet, plain = ((1, 1, 1),), (0, 1)
>>> [nearest(2, plain, sheet, (1, 0, 1)), lightest_on_shelf(2, plain, sheet, (1, 0, 1)), judge_mending(2, plain, sheet, 1), mending_holds(2, plain, sheet, 2, ('clash', (0, 0, 1), (1, 1, 0))), mended(2, plain, sheet, (1, 0, 1), 1), mended(2, plain, sheet, (1, 0, 1), 2)]
[(1, ((1, 1, 1),)), (0, 1, 0), ('mends', 4), True, (1, 1, 1), None]
""")

    def test_all_rows_of_small_spaces(self):
        for n, w, sheet in weighed_sheets(801, 60):
            words = plain_words(n, sheet)
            for row in rows_of(n, len(sheet[0]))[::3]:
                self.same(nearest(n, w, sheet, row), plain_nearest(n, w, sheet, row))
                shelf = [plus(n, row, word) for word in words]
                least = min((plain_weight(w, own), own) for own in shelf)
                self.same(lightest_on_shelf(n, w, sheet, row), least[1])
                self.assertEqual(nearest(n, w, sheet, row)[0], least[0])

    def test_errors_are_the_row_less_the_word(self):
        # The weighing is not mirrored, so the other difference weighs something else.
        self.same(nearest(5, (0, 1, 9, 9, 9), ((1, 1),), (1, 0)), (1, ((0, 0),)))
        self.same(nearest(5, (0, 9, 9, 9, 1), ((1, 1),), (1, 0)), (1, ((1, 1),)))
        self.same(lightest_on_shelf(5, (0, 9, 9, 9, 1), ((1, 1),), (1, 0)), (0, 4))

    def test_several_nearest_words(self):
        self.same(nearest(2, (0, 1), ((1, 1),), (1, 0)), (1, ((0, 0), (1, 1))))
        self.same(nearest(4, (0, 1, 1, 1), ((2, 0), (0, 2)), (0, 1)), (1, ((0, 0), (0, 2))))
        self.same(lightest_on_shelf(2, (0, 1), ((1, 1),), (1, 0)), (0, 1))
        # Of the rows of the least weight the least one is taken, and not the least of the shelf.
        self.same(lightest_on_shelf(3, (0, 2, 1), ((1, 1),), (1, 0)), (0, 2))
        self.same(lightest_on_shelf(3, (0, 4, 1), ((1, 2),), (0, 1)), (2, 2))
        self.same(least_on_shelf(3, ((1, 2),), (0, 1)), (0, 1))

    def test_words_and_sheets_of_one_word(self):
        for n, w, sheet in weighed_sheets(802, 30):
            for word in sorted(plain_words(n, sheet))[:5]:
                self.same(nearest(n, w, sheet, word), (0, (word,)))
                self.same(lightest_on_shelf(n, w, sheet, word), (0,) * len(word))
            zeros = ((0,) * len(sheet[0]),)
            row = sheet[0]
            self.same(nearest(n, w, zeros, row), (plain_weight(w, row), zeros))
            self.same(lightest_on_shelf(n, w, zeros, row), row)

    def test_most_words(self):
        source = chance(803)
        for n, rows in [(2, 6), (4, 6), (17, 3), (30, 2)]:
            sheet = chance_sheet(source, n, rows, 20)
            row = tuple(source.choices(range(n), k=20))
            w = round_weighing(n)
            found = nearest(n, w, sheet, row)
            self.same(found, plain_nearest(n, w, sheet, row))
            self.assertEqual(plain_weight(w, lightest_on_shelf(n, w, sheet, row)), found[0])

    def test_shelves_part_the_rows(self):
        for n, w, sheet in weighed_sheets(804, 30):
            rows = rows_of(n, len(sheet[0]))
            if len(rows) <= 300:
                lightest = {lightest_on_shelf(n, w, sheet, row) for row in rows}
                self.assertEqual(len(lightest) * many_words(n, sheet), len(rows))


class Mending(Case):
    def check(self, n, w, sheet, t):
        light, clashes = plain_clashes(n, w, sheet, t)
        found = judge_mending(n, w, sheet, t)
        if clashes:
            self.assertEqual((type(found), len(found), found[0]), (tuple, 3, "clash"))
            self.assertIn(found[1:], clashes)
        else:
            self.same(found, ("mends", len(light)))
        self.same(mending_holds(n, w, sheet, t, found), True)
        self.same(mending_holds(n, w, sheet, t, ("mends", len(light))), not clashes)
        for clash in clashes[:5] + clashes[-5:]:
            self.same(mending_holds(n, w, sheet, t, ("clash",) + clash), True)
        return found[0]

    def test_small_spaces(self):
        kinds = []
        for n, w, sheet in weighed_sheets(811, 80):
            if n ** len(sheet[0]) <= 300:
                kinds.extend(self.check(n, w, sheet, t) for t in some_t(n, w, sheet))
        self.assertGreater(min(kinds.count("mends"), kinds.count("clash")), 60)

    def test_each_clock(self):
        source = chance(812)
        for n in CLOCKS:
            for w in (plain_weighing(n), round_weighing(n)):
                sheet = chance_sheet(source, n, 1, 1)
                for t in (0, 1, n // 2):
                    self.check(n, w, sheet, t)

    def test_0_is_always_mended(self):
        for n, w, sheet in weighed_sheets(813, 30):
            self.same(judge_mending(n, w, sheet, 0), ("mends", 1))
            self.same(mending_holds(n, w, sheet, 0, ("mends", 1)), True)
        long = tuple(tuple(int(i == j) for j in range(20)) for i in range(20))
        self.same(judge_mending(30, plain_weighing(30), long, 0), ("mends", 1))

    def test_sheets_of_one_word_mend_all(self):
        for n, length, t in [(2, 5, 5), (3, 4, 4), (30, 2, 2), (12, 3, 3)]:
            self.same(judge_mending(n, plain_weighing(n), ((0,) * length,), t), ("mends", n ** length))
        self.same(judge_mending(30, plain_weighing(30), ((0,) * 20,), 1), ("mends", 1 + 20 * 29))

    def test_half_the_least_weight(self):
        found = set()
        for n, w, sheet in weighed_sheets(814, 200):
            least = least_weight(n, w, sheet)
            if not (is_tame(n, w) and is_mirrored(n, w)) or least is None or n ** len(sheet[0]) > 700:
                continue
            for t in range((least + 1) // 2):
                self.assertEqual(judge_mending(n, w, sheet, t)[0], "mends")
            if w == plain_weighing(n):
                for t in range((least + 1) // 2, len(sheet[0]) + 1):
                    self.assertEqual(judge_mending(n, w, sheet, t)[0], "clash")
                found.add(least % 2)
        self.assertEqual(found, {0, 1})

    def test_t_at_half_the_least_weight_of_known_sheets(self):
        # Least weights 3 and 4: 1 is mended, 2 is not.
        for length in (3, 4):
            sheet = ((1,) * length,)
            self.same(least_weight(2, (0, 1), sheet), length)
            self.same(judge_mending(2, (0, 1), sheet, 1), ("mends", length + 1))
            self.assertEqual(judge_mending(2, (0, 1), sheet, 2)[0], "clash")
        # A weighing that is not tame: the least weight is 9, and 2 is not mended.
        self.same([least_weight(4, (0, 1, 9, 1), ((2,),)), is_tame(4, (0, 1, 9, 1))], [9, False])
        self.assertEqual(judge_mending(4, (0, 1, 9, 1), ((2,),), 2)[0], "clash")

    def test_long_sheets(self):
        source = chance(815)
        for n, t, rows in [(2, 3, 6), (3, 2, 6), (4, 2, 4), (30, 1, 2), (17, 1, 3)]:
            sheet = chance_sheet(source, n, rows, 20)
            w = plain_weighing(n)
            found = judge_mending(n, w, sheet, t)
            self.same(mending_holds(n, w, sheet, t, found), True)
            self.assertEqual(found[0] == "mends", least_weight(n, w, sheet) > 2 * t)

    def test_mended(self):
        for n, w, sheet in weighed_sheets(816, 50):
            words = plain_words(n, sheet)
            for row in rows_of(n, len(sheet[0]))[::7]:
                for t in some_t(n, w, sheet)[:5]:
                    near = [word for word in words if plain_weight(w, less(n, row, word)) <= t]
                    self.same(mended(n, w, sheet, row, t), near[0] if len(near) == 1 else None)

    def test_words_with_light_errors_are_told(self):
        source = chance(817)
        found = 0
        for n, w, sheet in weighed_sheets(818, 150):
            length = len(sheet[0])
            if n ** length > 300:
                continue
            for t in some_t(n, w, sheet)[:4]:
                if judge_mending(n, w, sheet, t)[0] == "mends":
                    word = source.choice(sorted(plain_words(n, sheet)))
                    for error in rows_of(n, length):
                        if plain_weight(w, error) <= t:
                            self.same(mended(n, w, sheet, plus(n, word, error), t), word)
                            found += any(error)
        self.assertGreater(found, 200)


class Certificates(Case):
    def is_right(self, n, w, sheet, t, thing):
        light, clashes = plain_clashes(n, w, sheet, t)
        if thing[0] == "mends":
            return not clashes and thing[1] == len(light)
        return thing[1:] in clashes

    def test_they_are_of_just_one_kind(self):
        for n, w, sheet in weighed_sheets(821, 60):
            rows = rows_of(n, len(sheet[0]))
            if len(rows) <= 30:
                for t in some_t(n, w, sheet):
                    things = [("mends", many) for many in range(-1, len(rows) + 2)]
                    things += [("clash", one, other) for one in rows for other in rows]
                    held = [thing for thing in things if mending_holds(n, w, sheet, t, thing)]
                    light, clashes = plain_clashes(n, w, sheet, t)
                    expected = [("clash",) + clash for clash in clashes] or [("mends", len(light))]
                    self.assertEqual(held, sorted(expected))

    def test_certificates_with_one_part_changed(self):
        for n, w, sheet, t in [
            (2, (0, 1), SHEET, 1), (2, (0, 1), SHEET, 2), (4, (0, 1, 2, 1), ((2, 1),), 2), (3, (0, 1, 1), ((1,),), 0),
            (5, (0, 1, 2, 2, 1), ((1, 2),), 2), (6, (0, 1, 2, 3, 2, 1), ((3,), (2,)), 3), (2, (0, 1), ((0, 0),), 9),
        ]:
            found = judge_mending(n, w, sheet, t)
            for thing in with_another_integer(found, (0, 1, n - 1, n, 10 ** 29)):
                self.same(mending_holds(n, w, sheet, t, thing), self.is_right(n, w, sheet, t, thing))
            for thing in misshapen(found):
                self.same(mending_holds(n, w, sheet, t, thing), False)

    def test_clashes_that_are_none(self):
        w = (0, 1, 2, 1)
        for thing, right in [
            (("clash", (0, 0), (2, 1)), True), (("clash", (2, 1), (0, 0)), True), (("clash", (0, 0), (0, 0)), False),
            (("clash", (2, 0), (0, 3)), True), (("clash", (2, 1), (0, 2)), True), (("clash", (0, 1), (2, 1)), False),
            (("clash", (0, 0), (2, 3)), True), (("clash", (0, 0), (4, 0)), False), (("clash", (0,), (2,)), False),
            (("clash", (0, 0), (True, 1)), False), (("clash", (0, 0), [2, 1]), False),
            (("clash", (0, 0, 0), (2, 1, 0)), False),
        ]:
            self.same(mending_holds(4, w, ((2, 1),), 3, thing), right)
        # They weigh 3 and 2: too much for less than 3, whichever is first.
        for thing in (("clash", (2, 1), (0, 2)), ("clash", (0, 2), (2, 1))):
            self.same([mending_holds(4, w, ((2, 1),), t, thing) for t in (1, 2, 3, 4)], [False, False, True, True])

    def test_any_value_as_certificate(self):
        wrong = odd_values() + [
            ("mends",), ("mends", None), ("mends", True), ("mends", 1, 1), ("mends", "4"), ("mends", (4,)), ("clash",),
            ("clash", (0, 0, 1)), ("clash", (0, 0, 1), None), ("clash", None, None), ("clash", [0, 0, 1], [1, 1, 0]),
            ("clash", (0, 0, 1), (1, 1, 0), 0), ("clash", (0, 0, 1), (1, 1, False)), ("mends", -4), ("mends", 10 ** 39),
        ]
        for thing in wrong:
            for t in (0, 1, 2):
                self.same(mending_holds(2, (0, 1), SHEET, t, thing), False)
        self.same(mending_holds(2, (0, 1), SHEET, 0, ("mends", True)), False)
        self.same(mending_holds(2, (0, 1), SHEET, 0, ("mends", 1)), True)

    def test_they_belong_together(self):
        for n, w, sheet in weighed_sheets(822, 40):
            if n ** len(sheet[0]) <= 300:
                for t in some_t(n, w, sheet):
                    found = judge_mending(n, w, sheet, t)
                    if found[0] == "clash":
                        one, other = found[1:]
                        self.assertTrue(is_within(n, sheet, less(n, one, other)))
                        self.same(least_on_shelf(n, sheet, one), least_on_shelf(n, sheet, other))


class Wrong(Case):
    def calls(self):
        good = {"n": 4, "w": (0, 1, 2, 1), "sheet": ((2, 1),)}
        with_row = [(function, {**good, "row": (0, 1)}) for function in WITH_ROW]
        with_row.append((mended, {**good, "row": (0, 1), "t": 1}))
        with_t = [(judge_mending, {**good, "t": 1}), (mending_holds, {**good, "t": 1, "thing": None})]
        return with_row, with_t

    def test_wrong_weighings_sheets_and_rows(self):
        with_row, with_t = self.calls()
        for function, good in with_row + with_t:
            self.refuses(BadWeighing, function, good, "w", no_weighings())
            self.refuses(BadSheet, function, good, "sheet", no_sheets())
        for function, good in with_row:
            self.refuses(BadRow, function, good, "row", no_rows())
            for row in ((0,), (0, 1, 2), (0,) * 20):
                self.raises(OtherLengths(), function, **{**good, "row": row})

    def test_the_first_error_of_two(self):
        with_row, with_t = self.calls()
        for function, good in with_row + with_t:
            self.raises(BadWeighing(None), function, **{**good, "w": None, "sheet": None})
            self.raises(BadSheet(()), function, **{**good, "sheet": ()})
        for function, good in with_row:
            self.raises(BadWeighing((1, 1)), function, **{**good, "w": (1, 1), "row": None})
            self.raises(BadSheet(((0, 1), (2,))), function, **{**good, "sheet": ((0, 1), (2,)), "row": (4,)})
            self.raises(BadRow((4,)), function, **{**good, "row": (4,)})
            self.raises(OtherLengths(), function, **{**good, "sheet": ((1,),)})
