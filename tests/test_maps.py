"""Tests of maps [6.1], of certificates that they are sound [6.2] and of kept weights [6.5]."""

import itertools

from hoursheets.annulled import annulled
from hoursheets.errors import BadSheet, BadWeighing
from hoursheets.maps import is_one_to_one, is_sound, judge_sound, leads_to, sound_holds, unkept_word
from tests.helper import (
    CLOCKS, LONGEST, Case, chance, chance_sheet, large_sheets, misshapen, no_sheets, no_weighings, odd_values,
    plain_weight, plain_word, plain_words, rows_of, sheets_of, weighings_of, with_another_integer,
)

FUNCTIONS = (judge_sound, is_sound, is_one_to_one)


def images_of(n, sheet):
    """The image of each multipliers."""
    return {x: plain_word(n, sheet, x) for x in rows_of(n, len(sheet))}


def plain_clashes(n, sheet, images):
    """All multipliers whose word has hours 0 only and whose image has not."""
    words, others = images_of(n, sheet), images_of(n, images)
    return [x for x in words if not any(words[x]) and any(others[x])]


def is_right(n, sheet, images, certificate):
    """Whether a certificate of the right form is right, by its words in [6.2]."""
    kind, proof = certificate
    if kind == "clash":
        return not any(plain_word(n, sheet, proof)) and any(plain_word(n, images, proof))
    return all(plain_word(n, proof, row) == image for row, image in zip(sheet, images))


def made_by(n, sheet, table):
    """The map whose images come of a table of columns."""
    return tuple(plain_word(n, table, row) for row in sheet)


def small_maps(seed, many):
    """Triples of a clock, a sheet and a map, with at most 800 multipliers."""
    source = chance(seed)
    found = []
    while len(found) < many:
        n, rows = source.choice(CLOCKS), source.randrange(1, 5)
        if n ** rows <= 800:
            sheet = chance_sheet(source, n, rows, source.randrange(1, 6))
            images = chance_sheet(source, n, rows, source.randrange(1, 6))
            if source.random() < 0.5:
                images = made_by(n, sheet, chance_sheet(source, n, len(sheet[0]), len(images[0])))
            found.append((n, sheet, images))
    return found


class Sound(Case):
    def check(self, n, sheet, images, sound):
        found = judge_sound(n, sheet, images)
        self.assertEqual((type(found), len(found), found[0]), (tuple, 2, "by" if sound else "clash"))
        self.assertIs(type(found[1]), tuple)
        if sound:
            self.assertEqual((len(found[1]), {len(row) for row in found[1]}), (len(sheet[0]), {len(images[0])}))
        hours = [hour for row in (found[1] if sound else found[1:]) for hour in row]
        self.assertTrue(all(type(hour) is int and 0 <= hour < n for hour in hours))
        self.assertTrue(is_right(n, sheet, images, found), (n, sheet, images, found))
        self.same([sound_holds(n, sheet, images, found), is_sound(n, sheet, images)], [True, sound])
        return found

    def test_examples(self):
        self.run_examples("""
>>> from hoursheets.maps import is_one_to_one, is_sound, leads_to, sound_holds, unkept_word
>>> [sound_holds(4, ((1, 2),), ((2, 1),), ('by', ((2, 1), (0, 0)))), is_sound(4, ((2,),), ((1,),)), sound_holds(4, ((2,),), ((1,),), ('clash', (2,))), is_one_to_one(4, ((1, 2),), ((2, 0),)), leads_to(4, ((1, 2),), ((3, 2),), ((1, 2),)), unkept_word(4, (0, 1, 2, 1), ((1, 2),), ((1, 1),))]
[True, False, True, False, True, ('word', (1,))]
""")

    def test_all_small_maps(self):
        shapes = [
            (2, 2, 2, 1), (2, 2, 1, 2), (3, 1, 2, 2), (4, 1, 1, 2), (4, 1, 2, 1), (4, 2, 1, 1), (6, 1, 1, 1),
            (8, 1, 1, 1),
        ]
        for n, many, length, other in shapes:
            for sheet in sheets_of(n, many, length):
                for images in sheets_of(n, many, other):
                    self.check(n, sheet, images, not plain_clashes(n, sheet, images))

    def test_soundness_by_all_pairs_of_multipliers(self):
        for n, sheet, images in small_maps(111, 200):
            words, others = images_of(n, sheet), images_of(n, images)
            told = {}
            sound = all(told.setdefault(words[x], others[x]) == others[x] for x in words)
            self.check(n, sheet, images, sound)
            one_to_one = sound and len(set(told.values())) == len(told)
            self.same(is_one_to_one(n, sheet, images), one_to_one)
            self.same(is_one_to_one(n, sheet, images), is_sound(n, sheet, images) and is_sound(n, images, sheet))

    def test_certificates_are_of_just_one_kind(self):
        for n, sheet, images in [
            (2, ((1, 1), (0, 1)), ((1, 0), (1, 1))), (2, ((1, 1), (1, 1)), ((1, 0), (1, 1))), (4, ((2,),), ((1,),)),
            (4, ((2, 0),), ((2,),)), (6, ((2,), (3,)), ((4,), (3,))), (6, ((2,), (4,)), ((3,), (3,))),
            (3, ((0, 0),), ((0,),)),
        ]:
            tables = itertools.product(rows_of(n, len(images[0])), repeat=len(sheet[0]))
            things = [("by", table) for table in tables] + [("clash", x) for x in rows_of(n, len(sheet))]
            held = [thing for thing in things if sound_holds(n, sheet, images, thing)]
            self.assertEqual(held, [thing for thing in things if is_right(n, sheet, images, thing)])
            self.assertEqual({thing[0] for thing in held}, {"clash" if plain_clashes(n, sheet, images) else "by"})
            self.assertIn(judge_sound(n, sheet, images), held)

    def test_large_sheets_with_sound_maps(self):
        source = chance(112)
        for n, sheet in large_sheets(113, 60):
            table = chance_sheet(source, n, len(sheet[0]), source.randrange(1, 21))
            images = made_by(n, sheet, table)
            self.check(n, sheet, images, True)
            self.same(sound_holds(n, sheet, images, ("by", table)), True)
            self.same(is_one_to_one(n, sheet, images), is_sound(n, images, sheet))

    def test_large_sheets_with_maps_that_are_not_sound(self):
        source = chance(114)
        for n, sheet in large_sheets(115, 60):
            factor = min(d for d in range(2, n + 1) if n % d == 0)
            # The last row is a sum of multiples of the others, so its image is told by theirs.
            x = tuple(source.randrange(n) for _ in sheet)
            longer = sheet + (plain_word(n, sheet, x),)
            table = chance_sheet(source, n, len(sheet[0]), 20)
            images = made_by(n, longer, table)
            self.check(n, longer, images, True)
            last = images[-1][:-1] + ((images[-1][-1] + factor) % n,)
            if factor < n:
                self.check(n, longer, images[:-1] + (last,), False)
            last = images[-1][:-1] + ((images[-1][-1] + 1) % n,)
            self.check(n, longer, images[:-1] + (last,), False)
            clash = tuple(x) + (n - 1,)
            self.same(sound_holds(n, longer, images[:-1] + (last,), ("clash", clash)), True)
            self.same(sound_holds(n, longer, images, ("clash", clash)), False)

    def test_sheets_of_20_rows(self):
        source = chance(116)
        for n in (2, 9, 30):
            sheet = annulled(n, ((0,) * 20,))
            images = chance_sheet(source, n, 20, 20)
            self.check(n, sheet, images, True)
            self.same(is_one_to_one(n, sheet, sheet), True)
            clashing = self.check(n, sheet[:19] + sheet[:1], images, False)
            self.assertEqual(sum(clashing[1]) % n, 0)

    def test_unlike_lengths_and_zeros(self):
        for n in (2, 12, 30):
            zeros = ((0,) * 20,)
            self.same([judge_sound(n, ((0,),), zeros), judge_sound(n, zeros, ((0,),))[0]], [("by", ((0,) * 20,)), "by"])
            self.check(n, zeros, ((1,),), False)
            self.check(n, ((1,),), ((1,) * 20,), True)
            self.same(is_one_to_one(n, ((1,),), ((0,) * 19 + (1,),)), True)
            self.same(is_one_to_one(n, ((1,),), zeros), False)
            self.same(is_one_to_one(n, ((0,),), zeros), True)

    def test_certificates_with_one_part_changed(self):
        for n, sheet, images in small_maps(117, 40) + [(2, ((1, 1), (0, 1)), ((1,), (1,))), (2, ((0,),), ((1,),))]:
            found = judge_sound(n, sheet, images)
            for thing in with_another_integer(found, (0, 1, n, -1, 10 ** 29)):
                hours = [hour for row in (thing[1] if found[0] == "by" else thing[1:]) for hour in row]
                right = all(0 <= hour < n for hour in hours) and is_right(n, sheet, images, thing)
                self.same(sound_holds(n, sheet, images, thing), right)
            for thing in misshapen(found):
                self.same(sound_holds(n, sheet, images, thing), False)
            other = {"by": "clash", "clash": "by"}[found[0]]
            self.same(sound_holds(n, sheet, images, (other, found[1])), False)

    def test_any_value_as_certificate(self):
        wrong = odd_values() + [
            ("by", ()), ("by", ((),)), ("by", ((0,) * 21,)), ("clash", ()), ("clash", (0,)), ("by",),
        ]
        for thing in wrong:
            self.same(sound_holds(4, ((1, 2),), ((2, 1),), thing), False)
            self.same(sound_holds(4, ((2,),), ((1,),), thing), False)

    def test_wrong_sheets(self):
        good = {"n": 4, "sheet": ((2, 1),), "images": ((1, 2),)}
        for function, more in [(function, {}) for function in FUNCTIONS] + [
            (sound_holds, {"thing": None}), (leads_to, {"other": ((1, 2),)}), (unkept_word, {"w": (0, 1, 2, 1)}),
        ]:
            self.refuses(BadSheet, function, {**good, **more}, "sheet", no_sheets())
            wrong = no_sheets() + [((1, 2), (0, 0)), ((1,),) * 20]
            self.refuses(BadSheet, function, {**good, **more}, "images", wrong)
            self.raises(BadSheet([1]), function, **{**good, **more, "sheet": [1], "images": None})
            self.raises(BadSheet(((1,), (1,))), function, **{**good, **more, "images": ((1,), (1,))})
            # Images with another number of rows are what is wrong, not the sheet.
            self.raises(BadSheet(((1, 2),)), function, **{**good, **more, "sheet": ((1, 2), (3, 3))})


class Leading(Case):
    def test_small_maps(self):
        found = set()
        for n, sheet, images in small_maps(118, 150):
            for other in (sheet, images, images[::-1], images + images[:1], images[:1], made_by(n, sheet, images)):
                expected = len(other[0]) == len(images[0]) and plain_words(n, other) == plain_words(n, images)
                self.same(leads_to(n, sheet, images, other), expected)
                found.add(expected)
        self.assertEqual(found, {True, False})

    def test_large_maps(self):
        for n, sheet in large_sheets(119, 30):
            images = annulled(n, sheet)[:6]
            self.same(leads_to(n, sheet[:1] * len(images), images, images[::-1] + images), True)
            self.same(leads_to(n, sheet[:1] * len(images), images, sheet), False)

    def test_other_lengths(self):
        self.same(leads_to(4, ((1,),), ((0, 0),), ((0,),)), False)
        self.same(leads_to(4, ((1,),), ((0, 0),), ((0, 0), (0, 0))), True)
        self.same(leads_to(n=4, sheet=((1,),), images=((3,),), other=((1,),)), True)

    def test_a_map_need_not_be_sound(self):
        self.same([is_sound(4, ((2,),), ((1,),)), leads_to(4, ((2,),), ((1,),), ((3,),))], [False, True])

    def test_wrong_third_sheets(self):
        good = {"n": 4, "sheet": ((2, 1),), "images": ((1, 2),)}
        self.refuses(BadSheet, leads_to, good, "other", no_sheets())
        self.raises(BadSheet(None), leads_to, 4, None, [1], "a")
        self.raises(BadSheet([1]), leads_to, 4, ((1,),), [1], "a")
        self.raises(BadSheet("a"), leads_to, 4, ((1,),), ((1,),), "a")


class Kept(Case):
    def test_small_maps(self):
        kinds = set()
        for n, sheet, images in small_maps(120, 120):
            words, others = images_of(n, sheet), images_of(n, images)
            longer = tuple(row + (0,) for row in sheet)
            turned = tuple(row[::-1] for row in sheet)
            for w in weighings_of(n, 121)[:6]:
                unlike = [x for x in words if plain_weight(w, words[x]) != plain_weight(w, others[x])]
                expected = ("word", min(unlike)) if unlike else None
                self.same(unkept_word(n, w, sheet, images), expected)
                kinds.add(expected is None)
                self.same([unkept_word(n, w, sheet, longer), unkept_word(n, w, turned, sheet)], [None, None])
        self.assertEqual(kinds, {True, False})

    def test_maps_that_keep_weights_are_one_to_one_if_they_are_sound(self):
        for n in (2, 3, 4):
            for sheet in sheets_of(n, 2, 1) + sheets_of(n, 1, 2):
                for images in sheets_of(n, len(sheet), 1) + sheets_of(n, len(sheet), 2):
                    if unkept_word(n, (0, 1, 2, 1)[:n], sheet, images) is None and is_sound(n, sheet, images):
                        self.same(is_one_to_one(n, sheet, images), True)

    def test_maps_that_are_not_sound(self):
        # The word of (2,) is that of (0,), and its image is not.
        self.same(unkept_word(4, (0, 1, 2, 1), ((2,),), ((1,),)), ("word", (1,)))
        self.same(unkept_word(4, (0, 2, 1, 2), ((2,),), ((1,),)), ("word", (1,)))
        self.same(unkept_word(4, (0, 1, 1, 1), ((2,),), ((1,),)), ("word", (2,)))

    def test_the_least_multipliers(self):
        self.same(unkept_word(3, (0, 1, 1), ((1, 0), (0, 1)), ((1, 0), (1, 1))), ("word", (0, 1)))
        self.same(unkept_word(3, (0, 1, 1), ((1, 0), (0, 1)), ((1, 0), (1, 0))), ("word", (1, 1)))
        self.same(unkept_word(3, (0, 1, 2), ((1, 0), (0, 1)), ((1, 0), (2, 0))), ("word", (0, 1)))

    def test_nearly_5000_multipliers(self):
        for n, many in ((2, 12), (4, 6), (17, 3), (30, 2)):
            source = chance(122 + n)
            sheet = chance_sheet(source, n, many, 19)
            zeros = tuple(row + (0,) for row in sheet)
            # Only multiples of the last row and of sums with it weigh more.
            other = zeros[:-1] + (sheet[-1] + (1,),)
            for w in weighings_of(n, 123)[:2]:
                self.same(unkept_word(n, w, zeros, tuple(row[::-1] for row in sheet)), None)
                self.same(unkept_word(n=n, w=w, sheet=zeros, images=other), ("word", (0,) * (many - 1) + (1,)))
                self.same(unkept_word(n, w, other, tuple(row[::-1] for row in other)), None)

    def test_wrong_weighings(self):
        good = {"n": 4, "sheet": ((2, 1),), "images": ((1, 2),)}
        self.refuses(BadWeighing, unkept_word, good, "w", no_weighings())
        self.raises(BadWeighing(0), unkept_word, 4, 0, None, None)
        self.raises(BadSheet(None), unkept_word, 4, (0, 1, 2, 1), None, [])
        self.raises(BadSheet((LONGEST, LONGEST)), unkept_word, 4, (0, 1, 2, 1), (LONGEST,), (LONGEST, LONGEST))
