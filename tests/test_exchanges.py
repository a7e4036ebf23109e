"""Tests of exchanges [6.3], of maps that are made by them [6.4] and of maps of a sheet onto itself [6.6]."""

import itertools
from collections import Counter

from hoursheets.annulled import annulled
from hoursheets.errors import BadExchange, BadRow, BadSheet, BadWeighing, OtherLengths
from hoursheets.exchanges import (
    both, class_counts, column_class, exchanged, is_exchange, judge_made, made_holds, own_maps, undone,
)
from hoursheets.maps import is_sound, leads_to, unkept_word
from hoursheets.reduced import same_words, words_of
from hoursheets.telling import is_telling
from tests.helper import (
    CLOCKS, LONGEST, Case, chance, chance_sheet, large_sheets, misshapen, no_rows, no_sheets, no_weighings, odd_values,
    paths_of, part_at, plain_class, plain_exchanges, plain_keepers, plain_led, plain_weight, rows_of, sheets_of,
    small_sheets,
    weighings_of, with_another_integer,
)

PLAIN = (0, 1, 1, 1)
ROUND = (0, 1, 2, 1)
UNEVEN = (0, 1, 2, 3)


def chance_exchange(source, n, w, length):
    places = list(range(length))
    source.shuffle(places)
    return (tuple(places), tuple(source.choice(plain_keepers(n, w)) for _ in places))


def led_sheet(n, exchange, sheet):
    return tuple(plain_led(n, exchange, row) for row in sheet)


def plain_counts(n, w, sheet):
    return Counter(plain_class(n, w, column) for column in zip(*sheet))


def is_right(n, w, sheet, images, certificate):
    """Whether a certificate of the right form is right, by its words in [6.4]."""
    if certificate[0] == "made":
        places, factors = certificate[1:]
        if sorted(places) != list(range(len(sheet[0]))) or not set(factors) <= set(plain_keepers(n, w)):
            return False
        return led_sheet(n, (places, factors), sheet) == images
    column, many, others = certificate[1:]
    if not all(0 <= hour < n for hour in column) or plain_class(n, w, column) != column:
        return False
    counts = [plain_counts(n, w, rows)[column] for rows in (sheet, images)]
    return counts == [many, others] and many != others


def no_exchanges():
    """Values that are no exchange for the weighing ROUND of the clock 4."""
    good = ((1, 0), (1, 3))
    return odd_values() + [
        ((), ()), ((0,), ()), ((), (1,)), ((0,), (0,)), ((0,), (2,)), ((1,), (1,)), ((0, 0), (1, 1)), ((0, 1), (1,)),
        ((0,), (1, 1)), ((0, 2), (1, 1)), ((-1, 0), (1, 1)), ((False, 1), (1, 1)), ((0, True), (1, 1)),
        ((0, 1), (True, 1)),
        ((0, 1), (1, 5)), ((0, 1), (1, -1)), ((0, 1), (1, None)), ((0, "1"), (1, 1)), ([0, 1], (1, 1)),
        ((0, 1), [1, 1]),
        [(0, 1), (1, 1)], ((0, 1), (1, 1), ()), ((0, 1),), (tuple(range(21)), (1,) * 21), ((0, (1,)), (1, 1)),
        ((0, 1), ((1,), 1)), "01", {0: 1}, (good,), ("made",) + good, ((0, 10 ** 39), (1, 1)), ((1, 2), (1, 1)),
    ]


class Exchanges(Case):
    def test_examples(self):
        self.run_examples("""
>>> from hoursheets.exchanges import class_counts, exchanged, is_exchange, made_holds, own_maps, undone
>>> plain = (0, 1, 1, 1)
>>> [is_exchange(4, plain, ((1, 0), (1, 3))), exchanged(4, plain, ((1, 0), (1, 3)), (1, 2)), undone(4, plain, ((1, 0), (1, 3))), class_counts(4, plain, ((1, 2, 0, 3),)), own_maps(4, plain, ((1, 2),))]
[True, (2, 3), ((1, 0), (3, 1)), (((0,), 1), ((1,), 2), ((2,), 1)), (((1, 2),), ((3, 2),))]
>>> [made_holds(4, plain, ((1, 2),), ((2, 1),), ('made', (1, 0), (3, 1))), made_holds(4, plain, ((1, 2),), ((2, 1),), ('made', (1, 0), (3, 3))), made_holds(4, plain, ((1, 2),), ((1, 1),), ('unlike', (1,), 1, 2))]
[True, False, True]
""")

    def test_is_exchange_for_all_pairs(self):
        for n, w in [(4, PLAIN), (4, UNEVEN), (5, (0, 1, 2, 2, 1)), (6, (0, 1, 2, 3, 2, 1))]:
            for length in (1, 2):
                right = plain_exchanges(n, w, length)
                for places in itertools.product(range(-1, length + 1), repeat=length):
                    for factors in rows_of(n, length):
                        self.same(is_exchange(n, w, (places, factors)), (places, factors) in right)

    def test_is_exchange_for_long_ones(self):
        source = chance(131)
        for n in CLOCKS:
            for w in weighings_of(n, 132):
                for length in (1, 20):
                    self.same(is_exchange(n, w, chance_exchange(source, n, w, length)), True)
                for length in (0, 21):
                    self.same(is_exchange(n, w, chance_exchange(source, n, w, length)), False)

    def test_is_exchange_for_any_value(self):
        for thing in no_exchanges():
            self.same(is_exchange(4, ROUND, thing), False)
        self.same([is_exchange(4, ROUND, ((0,), (3,))), is_exchange(4, UNEVEN, ((0,), (3,)))], [True, False])
        for thing in misshapen(("made", (1, 0, 2), (1, 3, 3))):
            if isinstance(thing, tuple) and thing[:1] == ("made",) and thing != ("made", (1, 0, 2), (1, 3, 3)):
                self.same(is_exchange(4, ROUND, thing[1:]), False)

    def test_exchanged(self):
        source = chance(133)
        for n in CLOCKS:
            for w in weighings_of(n, 134)[:6]:
                for length in (1, 3, 20):
                    row = tuple(source.choices(range(n), k=length))
                    exchange = chance_exchange(source, n, w, length)
                    found = exchanged(n, w, exchange, row)
                    self.same(found, plain_led(n, exchange, row))
                    self.assertEqual(plain_weight(w, found), plain_weight(w, row))

    def test_both_and_undone(self):
        source = chance(135)
        for n in CLOCKS:
            for w in weighings_of(n, 136)[:6]:
                for length in (1, 4, 20):
                    first, second = (chance_exchange(source, n, w, length) for _ in range(2))
                    row = tuple(source.choices(range(n), k=length))
                    together, back = both(n, w, first, second), undone(n, w, first)
                    self.same([is_exchange(n, w, together), is_exchange(n, w, back)], [True, True])
                    self.same(plain_led(n, together, row), plain_led(n, second, plain_led(n, first, row)))
                    self.same(plain_led(n, back, plain_led(n, first, row)), row)
                    still = (tuple(range(length)), (1,) * length)
                    self.same([both(n, w, first, back), both(n, w, back, first)], [still, still])
                    self.same([undone(n, w, back), undone(n, w, still)], [first, still])

    def test_exchanges_of_short_rows_are_told_by_their_rows(self):
        for n, w in [(5, (0, 1, 2, 2, 1)), (4, ROUND)]:
            exchanges = plain_exchanges(n, w, 2)
            for first in exchanges:
                for second in exchanges:
                    goals = [plain_led(n, second, plain_led(n, first, row)) for row in rows_of(n, 2)]
                    expected = [own for own in exchanges if list(led_sheet(n, own, rows_of(n, 2))) == goals]
                    self.same([both(n, w, first, second)], expected)

    def test_wrong_arguments(self):
        good = {"n": 4, "w": ROUND, "exchange": ((1, 0), (1, 3)), "row": (1, 2)}
        self.refuses(BadWeighing, exchanged, good, "w", no_weighings())
        self.refuses(BadExchange, exchanged, good, "exchange", no_exchanges())
        self.refuses(BadRow, exchanged, good, "row", no_rows())
        for row in ((0,), (0, 1, 2), LONGEST):
            self.raises(OtherLengths(), exchanged, **{**good, "row": row})
        pair = {"n": 4, "w": ROUND, "first": ((1, 0), (1, 3)), "second": ((0, 1), (3, 3))}
        self.refuses(BadWeighing, both, pair, "w", no_weighings())
        for name in ("first", "second"):
            self.refuses(BadExchange, both, pair, name, no_exchanges())
            self.raises(OtherLengths(), both, **{**pair, name: ((0,), (1,))})
        alone = {"n": 4, "w": ROUND, "exchange": ((1, 0), (1, 3))}
        self.refuses(BadWeighing, undone, alone, "w", no_weighings())
        self.refuses(BadExchange, undone, alone, "exchange", no_exchanges())
        self.refuses(BadWeighing, is_exchange, {"n": 4, "thing": ((0,), (1,))}, "w", no_weighings())

    def test_the_first_error_of_two(self):
        self.raises(BadWeighing(1), exchanged, 4, 1, 2, 3)
        self.raises(BadExchange(2), exchanged, 4, ROUND, 2, 3)
        self.raises(BadRow(3), exchanged, 4, ROUND, ((0,), (1,)), 3)
        self.raises(BadWeighing(1), both, 4, 1, 2, 3)
        self.raises(BadExchange(2), both, 4, ROUND, 2, 3)
        self.raises(BadExchange(3), both, 4, ROUND, ((0,), (1,)), 3)
        self.raises(BadWeighing(1), undone, 4, 1, 2)
        self.raises(BadWeighing(1), is_exchange, 4, 1, 2)
        # 3 is a keeper of the one weighing and none of the other one.
        self.raises(BadExchange(((0,), (3,))), undone, 4, UNEVEN, ((0,), (3,)))


class Classes(Case):
    def test_classes_of_all_short_columns(self):
        for n in (2, 3, 4, 5, 6, 8):
            for w in weighings_of(n, 137):
                for column in rows_of(n, 1) + rows_of(n, 2):
                    self.same(column_class(n, w, column), plain_class(n, w, column))

    def test_classes_of_long_columns(self):
        source = chance(138)
        for n in CLOCKS:
            for w in weighings_of(n, 139):
                column = tuple(source.choices(range(n), k=20))
                least = column_class(n, w, column)
                self.same(least, plain_class(n, w, column))
                for u in plain_keepers(n, w):
                    self.same(column_class(n, w, tuple(u * hour % n for hour in column)), least)
                self.same(column_class(n, w, (0,) * 20), (0,) * 20)

    def test_class_counts(self):
        for n, sheet in small_sheets(140, 60) + large_sheets(141, 40):
            for w in weighings_of(n, 142)[:6]:
                doubled = tuple(row[:10] + row[:10] for row in sheet)
                for rows in (sheet, doubled):
                    self.same(class_counts(n, w, rows), tuple(sorted(plain_counts(n, w, rows).items())))

    def test_class_counts_of_zeros_and_of_20_rows(self):
        self.same(class_counts(4, PLAIN, ((0,) * 20,) * 2), (((0, 0), 20),))
        self.same(class_counts(4, PLAIN, ((1, 0), (0, 0))), (((0, 0), 1), ((1, 0), 1)))
        sheet = annulled(6, ((0,) * 20,))
        self.same(class_counts(6, (0, 1, 1, 1, 1, 1), sheet), tuple((column, 1) for column in sorted(zip(*sheet))))

    def test_wrong_arguments(self):
        self.refuses(BadWeighing, column_class, {"n": 4, "column": (1, 2)}, "w", no_weighings())
        self.refuses(BadRow, column_class, {"n": 4, "w": ROUND}, "column", no_rows())
        self.refuses(BadWeighing, class_counts, {"n": 4, "sheet": ((1, 2),)}, "w", no_weighings())
        self.refuses(BadSheet, class_counts, {"n": 4, "w": ROUND}, "sheet", no_sheets())
        self.raises(BadWeighing(0), column_class, 4, 0, None)
        self.raises(BadWeighing(0), class_counts, 4, 0, None)


class Made(Case):
    def check(self, n, w, sheet, images, made):
        found = judge_made(n, w, sheet, images)
        self.assertEqual((type(found), found[0], len(found)), (tuple, "made", 3) if made else (tuple, "unlike", 4))
        self.assertTrue(all(type(part_at(found, path)) is int for path in paths_of(found)))
        self.assertTrue(is_right(n, w, sheet, images, found), (n, w, sheet, images, found))
        self.same(made_holds(n, w, sheet, images, found), True)
        return found

    def test_all_small_maps(self):
        for n, w, many, length in [
            (2, (0, 1), 2, 2), (3, (0, 1, 1), 1, 2), (3, (0, 1, 2), 1, 2), (4, PLAIN, 1, 2), (4, UNEVEN, 1, 2),
        ]:
            exchanges = plain_exchanges(n, w, length)
            for sheet in sheets_of(n, many, length):
                made = {led_sheet(n, exchange, sheet) for exchange in exchanges}
                for images in sheets_of(n, many, length):
                    self.check(n, w, sheet, images, images in made)

    def test_certificates_are_of_just_one_kind(self):
        for n, w, sheet, images in [
            (4, PLAIN, ((1, 2),), ((2, 3),)), (4, PLAIN, ((1, 2),), ((1, 1),)), (4, UNEVEN, ((1, 2),), ((2, 3),)),
            (4, UNEVEN, ((1, 2),), ((2, 1),)), (3, (0, 1, 1), ((0, 1), (2, 0)), ((0, 2), (1, 0))),
            (3, (0, 1, 1), ((0, 0),), ((0, 1),)),
        ]:
            places = itertools.product(range(3), repeat=2)
            things = [("made",) + own for own in itertools.product(places, rows_of(n, 2))]
            for column in rows_of(n, len(sheet)):
                things.extend(("unlike", column) + pair for pair in itertools.product(range(-1, 4), repeat=2))
            held = [thing for thing in things if made_holds(n, w, sheet, images, thing)]
            self.assertEqual(held, [thing for thing in things if is_right(n, w, sheet, images, thing)])
            self.assertEqual(len({thing[0] for thing in held}), 1)
            self.assertIn(judge_made(n, w, sheet, images), held)

    def test_small_and_large_sheets(self):
        source = chance(143)
        for n, sheet in small_sheets(144, 80) + large_sheets(145, 40):
            for w in source.choices(weighings_of(n, 146), k=3):
                exchange = chance_exchange(source, n, w, len(sheet[0]))
                images = led_sheet(n, exchange, sheet)
                self.check(n, w, sheet, images, True)
                self.same(made_holds(n, w, sheet, images, ("made",) + exchange), True)
                for other in (chance_sheet(source, n, len(sheet), len(sheet[0])), images[::-1]):
                    self.check(n, w, sheet, other, plain_counts(n, w, sheet) == plain_counts(n, w, other))

    def test_all_unlike_classes_are_certificates(self):
        for n, sheet in small_sheets(147, 60):
            images = tuple(row[1:] + (0,) for row in sheet)
            for w in weighings_of(n, 148)[:5]:
                here, there = plain_counts(n, w, sheet), plain_counts(n, w, images)
                for column in list(here) + list(there) + [(0,) * len(sheet)]:
                    expected = here[column] != there[column]
                    thing = ("unlike", column, here[column], there[column])
                    self.same(made_holds(n, w, sheet, images, thing), expected)
                    self.same(made_holds(n, w, images, sheet, thing), False)

    def test_sheets_of_20_rows(self):
        source = chance(149)
        for n in (2, 12, 30):
            sheet = annulled(n, ((0,) * 20,))
            for w in weighings_of(n, 150)[:5]:
                exchange = chance_exchange(source, n, w, 20)
                found = self.check(n, w, sheet, led_sheet(n, exchange, sheet), True)
                self.same(found, ("made",) + exchange)
                self.check(n, w, sheet, sheet[:19] + sheet[:1], False)

    def test_columns_of_zeros(self):
        self.check(4, PLAIN, ((0, 0, 1),), ((0, 3, 0),), True)
        self.check(4, PLAIN, ((0, 1, 1),), ((0, 0, 1),), False)
        self.same(made_holds(4, PLAIN, ((0, 1, 1),), ((0, 0, 1),), ("unlike", (0,), 1, 2)), True)
        self.same(made_holds(4, PLAIN, ((0, 1, 1),), ((0, 0, 1),), ("unlike", (1,), 2, 1)), True)
        self.same(made_holds(4, PLAIN, ((0, 1, 1),), ((0, 0, 1),), ("unlike", (3,), 2, 1)), False)
        self.same(made_holds(4, PLAIN, ((0, 1, 1),), ((0, 0, 1),), ("unlike", (2,), 0, 0)), False)
        for factor in (1, 3):
            self.same(made_holds(4, PLAIN, ((0, 1),), ((0, 1),), ("made", (0, 1), (factor, 1))), True)

    def test_certificates_with_one_part_changed(self):
        source = chance(151)
        for n, sheet in small_sheets(152, 40):
            w = source.choice(weighings_of(n, 153))
            made = led_sheet(n, chance_exchange(source, n, w, len(sheet[0])), sheet)
            for images in (made, chance_sheet(source, n, len(sheet), len(sheet[0]))):
                found = judge_made(n, w, sheet, images)
                for thing in with_another_integer(found, (0, 1, n, 10 ** 29)):
                    self.same(made_holds(n, w, sheet, images, thing), is_right(n, w, sheet, images, thing))
                for thing in misshapen(found):
                    self.same(made_holds(n, w, sheet, images, thing), False)

    def test_any_value_as_certificate(self):
        for thing in odd_values() + [
            ("made", (), ()), ("made", (0,), (1,)), ("unlike", (), 0, 1), ("unlike", (1,), 1, True),
        ]:
            self.same(made_holds(4, PLAIN, ((1, 2),), ((2, 1),), thing), False)
            self.same(made_holds(4, PLAIN, ((2, 2),), ((1, 2),), thing), False)
        for thing in (
            ("made", (1, 0, 2), (3, 1, 1)), ("made", (0,), (3,)), ("unlike", (1, 0), 1, 2), ("unlike", (1, 0), 0, 0),
        ):
            self.same(made_holds(4, PLAIN, ((1, 2),), ((2, 1),), thing), False)
        self.same(made_holds(4, PLAIN, ((2, 2),), ((1, 2),), ("unlike", (1,), 0, 1)), True)
        self.same(made_holds(4, PLAIN, ((2, 2),), ((1, 2),), ("unlike", (True,), 0, 1)), False)

    def test_wrong_arguments(self):
        good = {"n": 4, "w": ROUND, "sheet": ((2, 1),), "images": ((1, 2),)}
        for function, more in ((judge_made, {}), (made_holds, {"thing": None})):
            self.refuses(BadWeighing, function, {**good, **more}, "w", no_weighings())
            self.refuses(BadSheet, function, {**good, **more}, "sheet", no_sheets())
            self.refuses(BadSheet, function, {**good, **more}, "images", no_sheets() + [((1, 2), (0, 0)), ((1,),) * 2])
            for images in (((1,),), ((1, 2, 3),), (LONGEST,)):
                self.raises(OtherLengths(), function, **{**good, **more, "images": images})
            self.raises(BadWeighing(0), function, **{**good, **more, "w": 0, "sheet": 1, "images": 2})
            self.raises(BadSheet(1), function, **{**good, **more, "sheet": 1, "images": 2})
            self.raises(BadSheet(((1,), (2,))), function, **{**good, **more, "images": ((1,), (2,))})

    def test_kept_weights_are_told_by_weighings_that_tell(self):
        source = chance(154)
        for n, sheet in small_sheets(155, 40):
            for w in weighings_of(n, 156)[:5]:
                if not is_telling(n, w):
                    continue
                length = len(sheet[0]) + source.randrange(3)
                longer = tuple(row + (0,) * (length - len(row)) for row in sheet)
                images = led_sheet(n, chance_exchange(source, n, w, length), longer)
                self.same([is_sound(n, sheet, images), unkept_word(n, w, sheet, images)], [True, None])
                self.check(n, w, longer, images, True)


class Own(Case):
    def plain_own(self, n, w, sheet):
        """All own maps, by going through all exchanges."""
        made = {led_sheet(n, exchange, sheet) for exchange in plain_exchanges(n, w, len(sheet[0]))}
        return tuple(sorted(images for images in made if same_words(n, images, sheet)))

    def test_small_sheets(self):
        source = chance(157)
        many = set()
        for _ in range(150):
            n, length = source.choice((2, 3, 4, 5, 6, 8, 9, 10, 12)), source.randrange(1, 5)
            sheet = chance_sheet(source, n, source.randrange(1, 4), length)
            for w in source.choices(weighings_of(n, 158), k=2):
                if len(plain_keepers(n, w)) ** length <= 300 and len(words_of(n, sheet)) <= 100:
                    found = own_maps(n, w, sheet)
                    self.same(found, self.plain_own(n, w, sheet))
                    many.add(len(found))
        self.assertGreater(len(many), 5)

    def test_own_maps_by_what_6_6_says_of_them(self):
        source = chance(159)
        for n, many, length in [(2, 2, 12), (3, 2, 12), (4, 1, 12), (6, 1, 12), (4, 2, 5), (9, 1, 12), (8, 1, 10)]:
            sheet = chance_sheet(source, n, many, length)
            words = words_of(n, sheet)
            for w in weighings_of(n, 160)[:4]:
                expected = tuple(
                    images for images in itertools.product(words, repeat=many)
                    if is_sound(n, sheet, images) and leads_to(n, sheet, images, sheet)
                    and plain_counts(n, w, images) == plain_counts(n, w, sheet)
                )
                self.same(own_maps(n, w, sheet), expected)

    def test_many_own_maps(self):
        points = ((0, 1, 1, 1, 1, 1, 1, 1), (1, 0, 1, 2, 3, 4, 5, 6))
        self.assertEqual(len(own_maps(7, (0,) + (1,) * 6, points)), (49 - 1) * (49 - 7))
        # Only 1 keeps these weights: the second row plus multiples of the first one.
        self.assertEqual(len(own_maps(7, (0, 1, 2, 3, 4, 5, 6), points)), 7)
        cube = ((0, 0, 0, 1, 1, 1, 1), (0, 1, 1, 0, 0, 1, 1), (1, 0, 1, 0, 1, 0, 1))
        self.assertEqual(len(own_maps(2, (0, 5), cube)), 168)
        twice = tuple(tuple(2 * hour for hour in row) for row in cube)
        self.assertEqual(len(own_maps(4, PLAIN, twice)), 168)
        self.assertEqual(len(own_maps(2, (0, 5), tuple(row + row[:5] for row in cube))), 8)
        # A row that is the sum of others has its image told by theirs.
        again = points + (tuple((a + b) % 7 for a, b in zip(*points)),)
        found = own_maps(7, (0,) + (1,) * 6, again)
        self.assertEqual(len(found), (49 - 1) * (49 - 7))
        self.assertEqual(list(found), sorted(found))

    def test_own_maps_are_closed(self):
        for n, w, sheet in [
            (4, PLAIN, ((1, 2, 3), (0, 1, 1))), (3, (0, 1, 1), ((1, 0, 1), (0, 1, 1))),
            (6, (0, 1, 2, 3, 2, 1), ((1, 1, 2), (3, 0, 2))),
        ]:
            found = own_maps(n, w, sheet)
            self.assertIn(sheet, found)
            for one in found:
                exchange = judge_made(n, w, sheet, one)[1:]
                self.assertIn(led_sheet(n, undone(n, w, exchange), sheet), found)
                for other in found:
                    more = judge_made(n, w, sheet, other)[1:]
                    self.assertIn(led_sheet(n, more, one), found)

    def test_sheets_of_zeros_and_of_one_hour(self):
        for n in (2, 12, 30):
            w = weighings_of(n, 161)[0]
            for zeros in (((0,),), ((0,) * 12,) * 3):
                self.same(own_maps(n, w, zeros), (zeros,))
            self.same(own_maps(n, w, ((1,),)), tuple(((u,),) for u in plain_keepers(n, w)))
        self.same(own_maps(n=4, w=UNEVEN, sheet=((2, 0), (0, 2))), (((0, 2), (2, 0)), ((2, 0), (0, 2))))

    def test_wrong_arguments(self):
        self.refuses(BadWeighing, own_maps, {"n": 4, "sheet": ((2, 1),)}, "w", no_weighings())
        self.refuses(BadSheet, own_maps, {"n": 4, "w": ROUND}, "sheet", no_sheets())
        self.raises(BadWeighing(0), own_maps, 4, 0, 1)
