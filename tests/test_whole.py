"""Tests over the whole program: what [0.3] promises, with the functions of all parts against one another."""

import itertools
from math import gcd

from hoursheets.along import along_holds, is_along, judge_along
from hoursheets.annulled import annulled, has_words, is_annulled, meet_of, sum_of
from hoursheets.bits import bit_words, bits_of, open_pair
from hoursheets.clocks import units
from hoursheets.counts import bar_of, count_of, turned_count, turned_zeros, zero_counts
from hoursheets.errors import Broken, HourError
from hoursheets.exchanges import class_counts, exchanged, judge_made, made_holds, own_maps
from hoursheets.houses import House
from hoursheets.joined import apart, beneath, beside, cut, shortened
from hoursheets.level import judge_level, level_counts
from hoursheets.likeness import alike_holds, are_alike, guises, judge_alike, least_guise, many_guises
from hoursheets.lists import counts_of, list_of, list_of_counts, sheet_of_counts
from hoursheets.maps import is_one_to_one, is_sound, judge_sound, leads_to, sound_holds, unkept_word
from hoursheets.mending import judge_mending, lightest_on_shelf, mended, mending_holds, nearest
from hoursheets.promises import against_holds, judge_promise
from hoursheets.readback import judge_list, list_holds, read_back
from hoursheets.reduced import is_reduced, many_words, orders_of_words, reduced, same_words, words_of
from hoursheets.rests import made_of, part_by, weighing_of
from hoursheets.rows import row_sum, sheet_of, word_of
from hoursheets.telling import is_telling, judge_weighing, two_sheets, weighing_holds
from hoursheets.texts import read_house
from hoursheets.weighings import classes, keepers, level_weighing, plain_weighing, round_weighing, weight_of
from hoursheets.weights import distance, is_mirrored, is_tame, least_weight, many_of_weight, total_weight
from hoursheets.within import is_within, judge_within, least_on_shelf, within_holds
from tests.helper import (
    CLOCKS, HOUSE_KINDS, Case, chance, chance_house, chance_sheet, losers, most_hours, promises_of, related_sheet,
    rows_of, small_sheets, telling_weighings, told, weighings_of,
)


def less(n, one, other):
    return tuple((a - b) % n for a, b in zip(one, other))


def some_words(source, n, sheet, many):
    return [word_of(n, sheet, tuple(source.choices(range(n), k=len(sheet)))) for _ in range(many)]


def drawn(seed, many, most=400):
    """Triples of a clock, a weighing and a sheet with few rows of its length and few exchanges."""
    source = chance(seed)
    found = []
    for n, sheet in small_sheets(seed, 12 * many):
        w = source.choice(weighings_of(n, seed))
        exchanges = 1
        for k in range(len(sheet[0])):
            exchanges *= (k + 1) * len(keepers(n, w))
        if exchanges <= most and n ** len(sheet) <= 130 and len(found) < many:
            found.append((n, w, sheet))
    return found


def chance_exchange(source, n, w, length):
    return (tuple(source.sample(range(length), length)), tuple(source.choices(keepers(n, w), k=length)))


def led(n, w, exchange, sheet):
    return tuple(exchanged(n, w, exchange, row) for row in sheet)


class Words(Case):
    def test_the_same_words_and_equal_reduced_sheets(self):
        source = chance(951)
        for n, sheet in small_sheets(952, 100):
            other = related_sheet(source, n, plain_weighing(n), [sheet], 2, len(sheet[0])) if n <= 4 else (sheet[0],)
            same = words_of(n, sheet) == words_of(n, other)
            self.same([same_words(n, sheet, other), reduced(n, sheet) == reduced(n, other)], [same, same])
            if len(other[0]) == len(sheet[0]):
                both = has_words(n, sheet, other) and has_words(n, other, sheet)
                self.same(same, both)
                self.same(same, same_words(n, annulled(n, sheet), annulled(n, other)))

    def test_rows_are_sums_or_barred(self):
        source = chance(953)
        for n, sheet in small_sheets(954, 60):
            behind = annulled(n, sheet)
            for row in source.sample(rows_of(n, len(sheet[0])), 3) + some_words(source, n, sheet, 2):
                found = judge_within(n, sheet, row)
                self.same(within_holds(n, sheet, row, found), True)
                inside = found[0] == "sum"
                self.same([is_within(n, sheet, row), has_words(n, sheet, (row,))], [inside, inside])
                self.same(is_annulled(n, behind, row), inside)
                self.same(least_on_shelf(n, sheet, row) == (0,) * len(row), inside)
                self.same(same_words(n, beneath(n, sheet, (row,)), sheet), inside)
                if not inside:
                    self.same(is_annulled(n, sheet, found[1]), True)

    def test_annulled_twice(self):
        for n, sheet in small_sheets(955, 100):
            behind = annulled(n, sheet)
            self.same(annulled(n, behind), reduced(n, sheet))
            self.same(many_words(n, sheet) * many_words(n, behind), n ** len(sheet[0]))
            self.same(many_words(n, apart(n, sheet, behind)), n ** len(sheet[0]))
            self.same(sum(many for _, many in orders_of_words(n, sheet)), many_words(n, sheet))

    def test_sheets_joined_and_cut(self):
        source = chance(956)
        for n, sheet in small_sheets(957, 60):
            other = chance_sheet(source, n, len(sheet), len(sheet[0]))
            self.same(reduced(n, beneath(n, sheet, other)), sum_of(n, sheet, other))
            wide = apart(n, sheet, other)
            self.same(annulled(n, wide), reduced(n, apart(n, annulled(n, sheet), annulled(n, other))))
            # The words of the sheet beside itself tell its meet with another sheet.
            self.same(meet_of(n, sheet, other), annulled(n, sum_of(n, annulled(n, sheet), annulled(n, other))))
            once = beside(n, sheet, other)
            while len(once[0]) > len(sheet[0]):
                once = cut(n, once, len(once[0]) - 1)
            self.same(once, reduced(n, sheet))
            while len(wide[0]) > len(sheet[0]):
                wide = shortened(n, wide, len(wide[0]) - 1)
            self.same(wide, reduced(n, sheet))


class Weights(Case):
    def test_weighings_tell_or_lose(self):
        for n in CLOCKS:
            for w in weighings_of(n, 961)[:5] + [w for clock, w in losers() if clock == n][:2]:
                if len(classes(n, w)) > 14:
                    continue
                found = judge_weighing(n, w)
                self.same([weighing_holds(n, w, found), is_telling(n, w)], [True, found[0] == "tells"])

    def test_if_it_tells_maps_that_keep_weights_are_made_by_exchanges(self):
        kinds = set()
        for n, w in [(2, (0, 3)), (3, (0, 1, 2)), (4, (0, 1, 2, 1)), (5, (0, 1, 2, 2, 1)), (6, (0, 3, 1, 2, 1, 3))] + [
            (n, w) for n, w in losers() if n == 5
        ]:
            rows = rows_of(n, 2)
            made = True
            for one, other in itertools.product(rows, repeat=2):
                sheet, images = (one,), (other,)
                keeps = is_one_to_one(n, sheet, images) and unkept_word(n, w, sheet, images) is None
                found = judge_made(n, w, sheet, images)
                self.same(made_holds(n, w, sheet, images, found), True)
                if found[0] == "made":
                    self.same(keeps, True)
                    self.same(led(n, w, found[1:], sheet), images)
                elif keeps:
                    made = False
            if is_telling(n, w):
                self.assertTrue(made)
            kinds.add((is_telling(n, w), made))
        self.assertEqual({telling for telling, _ in kinds}, {True, False})

    def test_if_it_loses_two_sheets_show_it(self):
        found = 0
        for n, w in losers():
            kind, counts = judge_weighing(n, w)
            self.assertEqual(kind, "loses")
            if most_hours(counts) > 20:
                continue
            one, other = two_sheets(n, w, counts)
            self.same(unkept_word(n, w, one, other), None)
            self.same(list_of(n, w, one), list_of(n, w, other))
            self.same(many_of_weight(n, w, one), many_of_weight(n, w, other))
            self.assertEqual(judge_made(n, w, one, other)[0], "unlike")
            self.assertNotEqual(counts_of(n, w, one), counts_of(n, w, other))
            house = House(n, w)
            house.put("a", one)
            house.put("b", other)
            self.same(judge_promise(house, ("kept", "a", "b")), ("holds",))
            house.make(("kept", "b", "a"))
            found += 1
        self.assertGreater(found, 5)

    def test_lists_come_from_just_one_tuple_of_counts(self):
        source = chance(962)
        for n in (2, 3, 4, 5, 6, 8, 9, 10, 11):
            for w in telling_weighings(n, 963)[:3]:
                k = 2 if n <= 6 else 1
                sheet = chance_sheet(source, n, k, source.randrange(1, 6))
                weights = list_of(n, w, sheet)
                counts = read_back(n, w, k, weights)
                self.same(counts, counts_of(n, w, sheet))
                self.same(list_of_counts(n, w, k, counts), tuple((weight, 1) for weight in weights))
                found = judge_list(n, w, k, weights)
                self.same([found, list_holds(n, w, k, weights, found)], [("counts", counts), True])
                if counts:
                    other = sheet_of_counts(n, w, k, counts)
                    self.same(unkept_word(n, w, sheet, other), None)
                    zeros = len(sheet[0]) - len(other[0])
                    if zeros:
                        other = beside(n, other, ((0,) * zeros,) * k)
                    self.assertEqual(judge_made(n, w, sheet, other)[0], "made")

    def test_maps_are_sound_or_clash(self):
        source = chance(964)
        for n, w, sheet in drawn(965, 60):
            images = chance_sheet(source, n, len(sheet), source.randrange(1, 4))
            if source.randrange(2):
                images = led(n, w, chance_exchange(source, n, w, len(sheet[0])), sheet)
            found = judge_sound(n, sheet, images)
            self.same([sound_holds(n, sheet, images, found), is_sound(n, sheet, images)], [True, found[0] == "by"])
            wide = many_words(n, beside(n, sheet, images))
            self.same(is_sound(n, sheet, images), wide == many_words(n, sheet))
            self.same(is_one_to_one(n, sheet, images), wide == many_words(n, sheet) == many_words(n, images))
            if len(images[0]) == len(sheet[0]):
                found = judge_made(n, w, sheet, images)
                self.same(found[0] == "made", class_counts(n, w, sheet) == class_counts(n, w, images))
                if found[0] == "made":
                    self.same(are_alike(n, w, sheet, images), True)

    def test_weighings_kept_along(self):
        source = chance(966)
        for n in (3, 4, 5, 6, 8, 10):
            own = [w for clock, w in losers() if clock == n] + weighings_of(n, 967)[:5]
            for w, v in itertools.product(own, repeat=2):
                found = judge_along(n, w, v)
                self.same([along_holds(n, w, v, found), is_along(n, w, v)], [True, found[0] == "by"])
                sheet = chance_sheet(source, n, 1, 3)
                for images in ((led(n, w, chance_exchange(source, n, w, 3), sheet)), chance_sheet(source, n, 1, 2)):
                    if found[0] == "by" and is_sound(n, sheet, images) and unkept_word(n, w, sheet, images) is None:
                        self.same(unkept_word(n, v, sheet, images), None)

    def test_level_sheets(self):
        for n in (2, 3, 4, 5, 6, 7, 8, 9, 10):
            for w in (plain_weighing(n), level_weighing(n)):
                found = judge_level(n, w, 1)
                if found[0] == "level" and sum(number[0] for _, number in found[2]) <= 20:
                    sheet = sheet_of_counts(n, w, 1, found[2])
                    self.same(many_of_weight(n, w, sheet), ((0, 1), (found[1], n - 1)))
                    self.same(counts_of(n, w, sheet), found[2])
                    self.same(total_weight(n, w, sheet), found[1] * (n - 1))
                    self.same(least_weight(n, w, sheet), found[1])
                self.same(read_back(n, w, 1, (0,) + (1,) * (n - 1)), level_counts(n, w, 1))


class Likeness(Case):
    def test_alike_or_unlike(self):
        source = chance(971)
        for n, w, sheet in drawn(972, 60):
            other = chance_sheet(source, n, 1, len(sheet[0]))
            if source.randrange(2):
                other = led(n, w, chance_exchange(source, n, w, len(sheet[0])), sheet)
            found = judge_alike(n, w, sheet, other)
            alike = found[0] == "alike"
            self.same([alike_holds(n, w, sheet, other, found), are_alike(n, w, sheet, other)], [True, alike])
            self.same(are_alike(n, w, annulled(n, sheet), annulled(n, other)), alike)
            self.same(least_guise(n, w, sheet)[0] == least_guise(n, w, other)[0], alike)
            self.same(guises(n, w, sheet) == guises(n, w, other), alike)
            if alike:
                self.assertTrue(same_words(n, led(n, w, found[1], sheet), other))
                self.same(many_of_weight(n, w, sheet), many_of_weight(n, w, other))
                self.same(orders_of_words(n, sheet), orders_of_words(n, other))
                self.same(count_of(n, sheet), count_of(n, other))

    def test_own_maps_and_guises(self):
        # Exchanges that lead a sheet to its own words make own maps, each equally often.
        for n, w, sheet in drawn(973, 40, 200):
            if many_words(n, sheet) > 100 or len(sheet) > 3:
                continue
            length = len(sheet[0])
            exchanges = [
                (places, factors) for places in itertools.permutations(range(length))
                for factors in itertools.product(keepers(n, w), repeat=length)
            ]
            maps = [led(n, w, exchange, sheet) for exchange in exchanges]
            own = [images for images in maps if leads_to(n, sheet, images, sheet)]
            self.same(own_maps(n, w, sheet), tuple(sorted(set(own))))
            self.same(len(own) * many_guises(n, w, sheet), len(exchanges))
            self.same({reduced(n, images) for images in maps} == set(guises(n, w, sheet)), True)


class Counts(Case):
    def test_counts_of_a_sheet_and_of_its_annulled_sheet_tell_one_another(self):
        for n, sheet in small_sheets(981, 100):
            behind = annulled(n, sheet)
            if len(sheet[0]) <= 5 and many_words(n, behind) <= 800:
                self.same(turned_count(n, count_of(n, sheet)), tuple((d, (a, 1)) for d, a in count_of(n, behind)))
                self.same(turned_count(n, count_of(n, behind)), tuple((d, (a, 1)) for d, a in count_of(n, sheet)))
                self.same(turned_zeros(n, zero_counts(n, sheet)), tuple((a, 1) for a in zero_counts(n, behind)))
                self.same(bar_of(n, count_of(n, sheet)), None)

    def test_zero_counts_are_weights_of_the_plain_weighing(self):
        for n, sheet in small_sheets(982, 60):
            weights = dict(many_of_weight(n, plain_weighing(n), sheet))
            self.same(zero_counts(n, sheet), tuple(weights.get(k, 0) for k in range(len(sheet[0]) + 1)))

    def test_clocks_put_together(self):
        source = chance(983)
        for n, sheet in small_sheets(984, 80):
            for a in [a for a in range(2, n) if n % a == 0 and gcd(a, n // a) == 1]:
                b = n // a
                parts = part_by(n, a, sheet), part_by(n, b, sheet)
                self.same(made_of(a, b, *parts), reduced(n, sheet))
                self.same(many_words(a, parts[0]) * many_words(b, parts[1]), many_words(n, sheet))
                w = weighing_of(a, b, round_weighing(a), round_weighing(b))
                self.same(is_telling(n, w), False)
                for word in some_words(source, n, sheet, 3):
                    rests = [tuple(hour % clock for hour in word) for clock in (a, b)]
                    self.same([is_within(a, parts[0], rests[0]), is_within(b, parts[1], rests[1])], [True, True])
                    heavy = weight_of(a, round_weighing(a), rests[0]) + weight_of(b, round_weighing(b), rests[1])
                    self.same(weight_of(n, w, word), heavy)


class Mending(Case):
    def test_mending_and_weights(self):
        source = chance(991)
        for n, w, sheet in drawn(992, 60):
            least = least_weight(n, w, sheet)
            row = source.choice(rows_of(n, len(sheet[0])))
            weight, words = nearest(n, w, sheet, row)
            self.assertEqual({distance(n, w, word, row) for word in words}, {weight})
            self.same(weight_of(n, w, lightest_on_shelf(n, w, sheet, row)), weight)
            self.same(least_on_shelf(n, sheet, lightest_on_shelf(n, w, sheet, row)), least_on_shelf(n, sheet, row))
            if weight > 400 or n ** len(sheet[0]) > 500:
                continue
            found = judge_mending(n, w, sheet, weight)
            self.same(mending_holds(n, w, sheet, weight, found), True)
            if found[0] == "mends":
                self.same(mended(n, w, sheet, row, weight), words[0])
            else:
                self.same(is_within(n, sheet, less(n, found[1], found[2])), True)
            if is_tame(n, w) and is_mirrored(n, w) and (least is None or 2 * weight < least):
                self.assertEqual(found[0], "mends")

    def test_bits_and_words(self):
        source = chance(993)
        for _ in range(60):
            sheet = chance_sheet(source, 4, source.randrange(1, 4), source.randrange(1, 5))
            words = words_of(4, sheet)
            self.same(bit_words(sheet), tuple(sorted(bits_of(word) for word in words)))
            weights = dict(many_of_weight(4, round_weighing(4), sheet))
            ones = [sum(bits) for bits in bit_words(sheet)]
            self.assertEqual(weights, {weight: ones.count(weight) for weight in ones})
            pair = open_pair(sheet)
            if pair is not None:
                i, j = pair
                row = tuple(2 * a * b % 4 for a, b in zip(sheet[i], sheet[j]))
                self.assertEqual(judge_within(4, sheet, row)[0], "barred")
                self.same(open_pair(sum_of(4, sheet, (row,))) == pair and is_within(4, sheet, row), False)


class Houses(Case):
    def holds_all(self, house):
        """Whether all promises of a house hold, by the functions of the parts."""
        sheets, n, w = dict(house.names()), house.n, house.weighing()
        for promise in house.promises():
            kind, one = promise[0], sheets[promise[1]]
            self.same(judge_promise(house, promise), ("holds",))
            if kind == "least":
                least = least_weight(n, w, one)
                self.assertTrue(least is None or least >= promise[2])
                continue
            other = sheets[promise[2]]
            if kind == "alike":
                self.same(are_alike(n, w, one, other), True)
            elif kind == "within":
                self.same(has_words(n, other, one), True)
            else:
                self.same([is_sound(n, one, other), unkept_word(n, w, one, other)], [True, None])

    def some_deed(self, source, house):
        names = [name for name, _ in house.names()] or ["a"]
        name = source.choice(names)
        length = len(dict(house.names()).get(name, ((0,),))[0])
        exchange = chance_exchange(source, house.n, house.weighing(), length)
        other = (0,) + tuple(source.randrange(1, 4) for _ in range(house.n - 1))
        promises = promises_of(names, (1, 2, 3)) or [("least", "a", 1)]
        deeds = [
            (house.exchange, (name, exchange)), (house.add, (name, 0, 1, source.randrange(house.n))),
            (house.add, (name, 1, 0, source.randrange(house.n))),
            (house.times, (name, 0, source.choice(units(house.n)))),
            (house.weigh, (other,)), (house.make, (source.choice(promises),)), (house.undo, ()), (house.redo, ()),
            (house.leave, (name,)) if source.randrange(8) == 0 else (house.undo, ()),
        ]
        return source.choice(deeds)

    def test_no_promise_is_ever_broken(self):
        source = chance(994)
        refused = 0
        for turn in range(3 * len(HOUSE_KINDS)):
            house = chance_house(source, HOUSE_KINDS[turn % len(HOUSE_KINDS)])
            for _ in range(25):
                deed, args = self.some_deed(source, house)
                if len(house.promises()) == 8 and deed == house.make:
                    continue
                before = told(house)
                try:
                    deed(*args)
                except Broken as error:
                    refused += 1
                    self.same(told(house), before)
                    if deed == house.make:
                        self.same(against_holds(house, error.promise, error.certificate), True)
                    else:
                        self.assertIn(error.promise, house.promises())
                except HourError:
                    self.same(told(house), before)
                self.holds_all(house)
            self.same(told(read_house(house.text())), told(house))
            self.same(house.is_same(read_house(house.text())), True)
        self.assertGreater(refused, 30)

    def test_promises_and_the_functions_of_the_parts(self):
        source = chance(995)
        for turn in range(3 * len(HOUSE_KINDS)):
            house = chance_house(source, HOUSE_KINDS[turn % len(HOUSE_KINDS)])
            n, w = house.n, house.weighing()
            for (a, one), (b, other) in itertools.permutations(house.names(), 2):
                like = len(one[0]) == len(other[0])
                if a < b:
                    self.promise(house, ("alike", a, b), like and are_alike(n, w, one, other))
                self.promise(house, ("within", a, b), like and has_words(n, other, one))
                kept = len(one) == len(other) and is_sound(n, one, other) and unkept_word(n, w, one, other) is None
                self.promise(house, ("kept", a, b), kept)
            for name, sheet in house.names():
                least = least_weight(n, w, sheet)
                for weight in (1, 2, 3, 10):
                    self.promise(house, ("least", name, weight), least is None or least >= weight)

    def promise(self, house, promise, holds):
        found = judge_promise(house, promise)
        self.same([found == ("holds",), against_holds(house, promise, found)], [holds, not holds])

    def test_sheets_of_functions_in_houses(self):
        source = chance(996)
        for n, w, sheet in drawn(997, 40):
            if len(sheet) > 3 or len(sheet[0]) > 5:
                continue
            house = House(n, w)
            guise, exchange = least_guise(n, w, sheet)
            house.put("a", sheet)
            house.put("b", guise)
            house.put("c", led(n, w, exchange, sheet))
            house.make(("alike", "a", "b"))
            house.make(("within", "c", "b"))
            house.make(("kept", "a", "c"))
            least = least_weight(n, w, sheet)
            house.make(("least", "a", least or 10 ** 9))
            if least is not None:
                with self.assertRaises(Broken):
                    house.make(("least", "b", least + 1))
            extra = some_words(source, n, sheet, 1)
            house.put("d", (row_sum(n, extra[0], sheet[0]),))
            house.make(("within", "d", "a"))
            self.assertTrue(is_reduced(n, house.sheet_of("b")))
            self.same(sheet_of(n, tuple(zip(*sheet))), house.sheet_of("a"))
