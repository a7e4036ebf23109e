"""Tests of joined sheets [12.1], and of cut and shortened ones [12.2]."""

from hoursheets.annulled import annulled
from hoursheets.errors import BadSheet, OtherLengths
from hoursheets.joined import apart, beneath, beside, cut, shortened
from hoursheets.reduced import is_reduced, many_words, reduced, same_words, words_of
from tests.helper import (
    CLOCKS, LONGEST, Case, chance, chance_sheet, large_sheets, no_sheets, plain_word, plain_words, rows_of,
    small_sheets,
)

WITH_TWO = (beside, beneath, apart)
WITH_POSITION = (cut, shortened)


def without(row, position):
    return tuple(hour for at, hour in enumerate(row) if at != position)


def places(length):
    """The first and the last position, and one between them."""
    return sorted({0, length // 2, length - 1})


class Joined(Case):
    def test_examples(self):
        self.run_examples("""
>>> from hoursheets.joined import apart, beneath, beside, cut, shortened
>>> sheet = ((2, 1),)
>>> [beside(4, sheet, ((3,),)), beneath(4, sheet, ((0, 1),)), apart(4, sheet, ((3,),)), cut(4, sheet, 0), shortened(4, sheet, 0)]
[((2, 1, 3),), ((2, 1), (0, 1)), ((2, 1, 0), (0, 0, 3)), ((1,),), ((2,),)]
""")

    def test_beside_goes_word_by_word(self):
        source = chance(501)
        for n, one in small_sheets(502, 80):
            other = chance_sheet(source, n, len(one), source.randrange(1, 4))
            found = beside(n, one, other)
            self.same(found, tuple(a + b for a, b in zip(one, other)))
            for x in rows_of(n, len(one))[::7]:
                self.assertEqual(plain_word(n, found, x), plain_word(n, one, x) + plain_word(n, other, x))

    def test_beneath_has_the_sums_of_words(self):
        source = chance(503)
        for n, one in small_sheets(504, 80):
            other = chance_sheet(source, n, 1, len(one[0]))
            found = beneath(n, one, other)
            self.same(found, one + other)
            words, more = plain_words(n, one), plain_words(n, other)
            sums = {tuple((a + b) % n for a, b in zip(x, y)) for x in words for y in more}
            self.assertEqual(set(words_of(n, found)), sums)

    def test_apart_has_all_pairs_of_words(self):
        source = chance(505)
        for n, one in small_sheets(506, 80):
            other = chance_sheet(source, n, 1, source.randrange(1, 3))
            found = apart(n, one, other)
            words, more = plain_words(n, one), plain_words(n, other)
            self.assertEqual((len(found), len(found[0])), (len(one) + 1, len(one[0]) + len(other[0])))
            self.assertEqual(plain_words(n, found), {a + b for a in words for b in more})
            self.same(many_words(n, found), len(words) * len(more))
            self.same(found[:len(one)], tuple(row + (0,) * len(other[0]) for row in one))
            self.same(found[len(one):], tuple((0,) * len(one[0]) + row for row in other))

    def test_rows_are_taken_as_they_are(self):
        # What comes of it is not reduced, and rows may be the same or of hours 0 alone.
        self.same(beneath(4, ((2, 0),), ((2, 0), (0, 0))), ((2, 0), (2, 0), (0, 0)))
        self.same(beside(4, ((2,), (2,)), ((3,), (3,))), ((2, 3), (2, 3)))
        self.same(apart(4, ((3,), (0,)), ((0,),)), ((3, 0), (0, 0), (0, 0)))

    def test_the_most_rows_and_columns(self):
        for n in (2, 17, 30):
            row = tuple(k % n for k in range(20))
            self.same(beside(n, (row[:19],), (row[19:],)), (row,))
            self.same(beside(n, (row[:1],), (row[1:],)), (row,))
            self.same(beneath(n, (row,) * 19, (row,)), (row,) * 20)
            full = annulled(n, ((0,) * 10,))
            self.same(apart(n, full, full), annulled(n, ((0,) * 20,)))

    def test_large_sheets(self):
        source = chance(507)
        for n, sheet in large_sheets(508, 30):
            length = len(sheet[0])
            one, other = tuple(row[:9] for row in sheet), tuple(row[9:] for row in sheet)
            self.same(beside(n, one, other), sheet)
            self.same(many_words(n, apart(n, one, other)), many_words(n, one) * many_words(n, other))
            extra = chance_sheet(source, n, 2, length)
            self.same(reduced(n, beneath(n, extra, sheet)), reduced(n, beneath(n, sheet, extra)))


class Cut(Case):
    def check(self, n, sheet):
        words = plain_words(n, sheet)
        for at in range(len(sheet[0])):
            found, other = cut(n, sheet, at), shortened(n, sheet, at)
            self.assertTrue(is_reduced(n, found) and is_reduced(n, other))
            self.assertEqual(set(words_of(n, found)), {without(word, at) for word in words})
            self.assertEqual(set(words_of(n, other)), {without(word, at) for word in words if word[at] == 0})

    def test_small_sheets(self):
        for n, sheet in small_sheets(511, 120):
            if len(sheet[0]) > 1:
                self.check(n, sheet)

    def test_each_clock(self):
        source = chance(512)
        for n in CLOCKS:
            self.check(n, chance_sheet(source, n, 1, 2))
            self.check(n, chance_sheet(source, n, 2, 3))

    def test_annulled_sheets_of_small_and_large_sheets(self):
        for n, sheet in small_sheets(513, 100) + large_sheets(514, 30):
            if len(sheet[0]) > 1:
                behind = annulled(n, sheet)
                for at in places(len(sheet[0])):
                    self.same(annulled(n, cut(n, sheet, at)), shortened(n, behind, at))
                    self.same(annulled(n, shortened(n, sheet, at)), cut(n, behind, at))

    def test_large_sheets(self):
        for n, sheet in large_sheets(515, 20):
            for at in places(len(sheet[0])):
                rows = tuple(without(row, at) for row in sheet)
                self.assertTrue(same_words(n, cut(n, sheet, at), rows))
                self.assertTrue(is_reduced(n, cut(n, sheet, at)) and is_reduced(n, shortened(n, sheet, at)))
                # The words are parted by their hours at the position, equally many for each of these.
                column = tuple((row[at],) for row in sheet)
                shorter = many_words(n, shortened(n, sheet, at))
                self.same(shorter * many_words(n, column), many_words(n, sheet))

    def test_sheets_of_one_word_and_of_all_rows(self):
        for n in (2, 12, 30):
            for length in (2, 20):
                zeros = ((0,) * length,)
                full = annulled(n, zeros)
                for at in places(length):
                    for function in WITH_POSITION:
                        self.same(function(n, zeros, at), ((0,) * (length - 1),))
                        self.same(function(n, full, at), annulled(n, ((0,) * (length - 1),)))

    def test_a_column_of_zeros(self):
        self.same([cut(6, ((0, 2),), 0), shortened(6, ((0, 2),), 0)], [((2,),), ((2,),)])
        self.same([cut(6, ((0, 2),), 1), shortened(6, ((0, 2),), 1)], [((0,),), ((0,),)])

    def test_words_that_come_together(self):
        # 3 times the row has the hour 0 at the first position, though no row has.
        self.same(shortened(6, ((2, 1),), 0), ((3,),))
        self.same(shortened(6, ((2, 1), (3, 2)), 0), ((1,),))


class Wrong(Case):
    def test_wrong_sheets(self):
        for function in WITH_TWO:
            good = {"n": 4, "one": ((2, 1),), "other": ((0, 1),)}
            self.refuses(BadSheet, function, good, "one", no_sheets())
            self.refuses(BadSheet, function, good, "other", no_sheets())
        for function in WITH_POSITION:
            self.refuses(BadSheet, function, {"n": 4, "position": 0}, "sheet", no_sheets())
            for sheet in (((0,),), ((3,), (1,)), ((2,),) * 20):
                self.raises(BadSheet(sheet), function, n=4, sheet=sheet, position=0)
            function(n=4, sheet=(LONGEST,), position=19)

    def test_other_lengths(self):
        self.raises(OtherLengths(), beside, n=4, one=((1, 2),), other=((1, 2), (3, 0)))
        self.raises(OtherLengths(), beside, n=4, one=((1,), (2,)), other=((1, 2),))
        self.raises(OtherLengths(), beneath, n=4, one=((1, 2),), other=((1,),))
        self.raises(OtherLengths(), beneath, n=4, one=((1,),), other=((1, 2), (3, 0)))
        self.same(beside(n=4, one=((1, 2),), other=((1,),)), ((1, 2, 1),))
        self.same(beneath(n=4, one=((1,),), other=((2,), (3,))), ((1,), (2,), (3,)))
        self.same(apart(n=4, one=((1, 2),), other=((1,), (2,))), ((1, 2, 0), (0, 0, 1), (0, 0, 2)))

    def test_the_first_error_of_two(self):
        for function in WITH_TWO:
            self.raises(BadSheet(None), function, 4, None, [])
            self.raises(BadSheet([]), function, 4, ((1,), (2,)), [])
            self.raises(BadSheet(((1,), (1, 2))), function, 4, ((1, 2),), ((1,), (1, 2)))
            self.raises(BadSheet(((4, 1),)), function, 4, ((4, 1),), ((1,), (2,)))
