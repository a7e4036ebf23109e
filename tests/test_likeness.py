"""Tests of sheets that are alike [10.1], their least guises [10.2] and what they have in common [10.3]."""

from math import factorial, gcd

from hoursheets.annulled import annulled
from hoursheets.errors import BadSheet, BadWeighing, OtherLengths
from hoursheets.joined import beneath
from hoursheets.likeness import alike_holds, are_alike, guises, judge_alike, least_guise, many_guises
from hoursheets.reduced import is_reduced, orders_of_words, reduced, same_words
from hoursheets.weighings import plain_weighing, round_weighing
from hoursheets.weights import many_of_weight
from tests.helper import (
    CLOCKS, Case, chance, chance_sheet, misshapen, no_sheets, no_weighings, odd_values, plain_annulled,
    plain_exchanges, plain_keepers, plain_led, plain_words, weighings_of, with_another_integer,
)

WITH_ONE = (least_guise, many_guises, guises)
WITH_TWO = (judge_alike, are_alike)
PLAIN = (0, 1, 1, 1)


def many_exchanges(n, w, length):
    return factorial(length) * len(plain_keepers(n, w)) ** length


def led_sheet(n, exchange, sheet):
    return tuple(plain_led(n, exchange, row) for row in sheet)


def drawn_cases(seed, many, most, most_words=120):
    """Triples of a clock, a weighing and a sheet with so many exchanges and words at most."""
    source = chance(seed)
    found = []
    while len(found) < many:
        n = source.choice(CLOCKS)
        w = source.choice(weighings_of(n, seed))
        rows, length = source.randrange(1, 4), source.randrange(1, 7)
        if many_exchanges(n, w, length) <= most and n ** rows <= most_words:
            found.append((n, w, chance_sheet(source, n, rows, length)))
    return found


def moved(source, n, w, sheet):
    """A sheet that is alike: exchanged, and with some row added to another one or repeated."""
    exchange = source.choice(plain_exchanges(n, w, len(sheet[0])))
    rows = list(led_sheet(n, exchange, sheet))
    i, j = source.randrange(len(rows)), source.randrange(len(rows))
    if i != j:
        rows[i] = tuple((a + 2 * b) % n for a, b in zip(rows[i], rows[j]))
    return tuple(rows + [rows[i]])


def plain_guises(n, w, sheet):
    """For each set of words of a sheet that comes by an exchange, how many exchanges lead to it."""
    found = {}
    for exchange in plain_exchanges(n, w, len(sheet[0])):
        words = frozenset(plain_words(n, led_sheet(n, exchange, sheet)))
        found[words] = found.get(words, 0) + 1
    return found


def is_right(n, w, one, other, certificate):
    """Whether a certificate of the right form is right, by its words in [10.2]."""
    if certificate[0] == "alike":
        if certificate[1] not in plain_exchanges(n, w, len(one[0])):
            return False
        return plain_words(n, led_sheet(n, certificate[1], one)) == plain_words(n, other)
    least = [guises(n, w, sheet)[0] for sheet in (one, other)]
    return list(certificate[1:]) == least and least[0] != least[1]


class Guises(Case):
    def check(self, n, w, sheet):
        found = guises(n, w, sheet)
        sets = plain_guises(n, w, sheet)
        self.assertIs(type(found), tuple)
        self.assertEqual(list(found), sorted(set(found)))
        self.assertTrue(all(is_reduced(n, guise) for guise in found))
        self.assertEqual({frozenset(plain_words(n, guise)) for guise in found}, set(sets))
        self.assertEqual(len(found), len(sets))
        self.same(many_guises(n, w, sheet), len(sets))
        # Each guise comes of equally many exchanges.
        self.assertEqual(set(sets.values()), {many_exchanges(n, w, len(sheet[0])) // len(sets)})
        self.assertEqual(many_exchanges(n, w, len(sheet[0])) % len(sets), 0)
        self.check_least(n, w, sheet, found)

    def check_least(self, n, w, sheet, found):
        least = least_guise(n, w, sheet)
        self.assertEqual((type(least), len(least)), (tuple, 2))
        guise, exchange = least
        self.same(guise, found[0])
        self.assertIn(exchange, plain_exchanges(n, w, len(sheet[0])))
        self.assertTrue(all(type(part) is tuple for part in (exchange,) + exchange))
        self.same(reduced(n, led_sheet(n, exchange, sheet)), guise)

    def test_examples(self):
        self.run_examples("""
>>> from hoursheets.likeness import alike_holds, are_alike, guises, judge_alike, least_guise, many_guises
>>> sheet, w = ((2, 1),), (0, 1, 2, 1)
>>> [least_guise(4, w, sheet)[0], many_guises(4, w, sheet), guises(4, w, sheet), are_alike(4, w, sheet, ((3, 2),))]
[((1, 2),), 2, (((1, 2),), ((2, 1), (0, 2))), True]
>>> [judge_alike(4, w, sheet, ((1, 1),)), alike_holds(4, w, sheet, ((1, 2),), ('alike', ((1, 0), (1, 3)))), alike_holds(4, w, sheet, ((1, 2),), ('alike', ((0, 1), (1, 1))))]
[('unlike', ((1, 2),), ((1, 1),)), True, False]
""")

    def test_drawn_sheets(self):
        for case in drawn_cases(301, 80, 400):
            self.check(*case)

    def test_each_clock(self):
        source = chance(302)
        for n in CLOCKS:
            for w in (plain_weighing(n), round_weighing(n), (0,) + tuple(range(1, n))):
                for length in (1, 2):
                    if many_exchanges(n, w, length) <= 300:
                        self.check(n, w, chance_sheet(source, n, 1, length))

    def test_sheets_of_one_word_and_of_all_rows(self):
        for n, length in [(2, 6), (3, 4), (4, 3), (12, 2), (30, 1), (29, 1)]:
            w = plain_weighing(n)
            zeros = ((0,) * length,)
            everything = tuple(tuple(int(i == j) for j in range(length)) for i in range(length))
            for sheet in (zeros, everything):
                self.same(guises(n, w, sheet), (sheet,))
                self.same([many_guises(n, w, sheet), least_guise(n, w, sheet)[0]], [1, sheet])
            self.same(guises(n, w, zeros * 6), (zeros,))

    def test_columns_of_zeros(self):
        self.same(guises(4, PLAIN, ((0, 2, 0),)), (((0, 0, 2),), ((0, 2, 0),), ((2, 0, 0),)))
        self.same(many_guises(5, (0, 1, 2, 3, 4), ((0, 0, 1, 0, 0),)), 5)
        self.same(least_guise(4, PLAIN, ((1, 0), (0, 0)))[0], ((0, 1),))

    def test_the_most_exchanges(self):
        source = chance(303)
        for n, w, length in [
            (7, (0, 1, 2, 3, 4, 5, 6), 6), (4, PLAIN, 5), (30, round_weighing(30), 5), (5, plain_weighing(5), 3),
            (7, (0, 1, 1, 2, 1, 2, 2), 4), (23, plain_weighing(23), 2), (29, plain_weighing(29), 1),
        ]:
            sheet = chance_sheet(source, n, 6, length)
            found = guises(n, w, sheet)
            self.check_least(n, w, sheet, found)
            self.same(many_guises(n, w, sheet), len(found))
            self.assertEqual(many_exchanges(n, w, length) % len(found), 0)

    def test_numbers_of_guises_worked_out_by_hand(self):
        # Of 3! 2^3 exchanges 8 lead to multiples of the row: 4 units, each with two factors at the hour 0.
        self.same(many_guises(5, round_weighing(5), ((1, 2, 0),)), 6)
        # With the keeper 1 alone, exchanges of places are all there is; 2 and 4 times the row are such.
        self.same(many_guises(7, (0, 1, 2, 3, 4, 5, 6), ((1, 2, 4),)), 2)
        self.same(many_guises(7, (0, 1, 2, 3, 4, 5, 6), ((1, 2, 3),)), 6)

    def test_alike_sheets_have_the_same_guises(self):
        source = chance(304)
        for n, w, sheet in drawn_cases(305, 30, 400):
            found = guises(n, w, sheet)
            for guise in (source.choice(found), found[0], found[-1], moved(source, n, w, sheet)):
                self.same(guises(n, w, guise), found)


class Alike(Case):
    def check(self, n, w, one, other, alike):
        found = judge_alike(n, w, one, other)
        self.assertEqual((type(found), len(found), found[0]), (tuple,) + ((2, "alike") if alike else (3, "unlike")))
        self.assertTrue(is_right(n, w, one, other, found), (n, w, one, other, found))
        self.same(alike_holds(n, w, one, other, found), True)
        self.same(are_alike(n, w, one, other), alike)
        return found

    def test_drawn_sheets(self):
        source = chance(311)
        kinds = []
        for n, w, sheet in drawn_cases(312, 60, 400):
            other = chance_sheet(source, n, source.randrange(1, 3), len(sheet[0]))
            alike = frozenset(plain_words(n, other)) in plain_guises(n, w, sheet)
            kinds.append(self.check(n, w, sheet, other, alike)[0])
            self.check(n, w, sheet, moved(source, n, w, sheet), True)
            self.check(n, w, moved(source, n, w, sheet), sheet, True)
            self.check(n, w, sheet, sheet, True)
        self.assertEqual(set(kinds), {"alike", "unlike"})

    def test_each_clock(self):
        source = chance(313)
        for n in CLOCKS:
            for w in (plain_weighing(n), round_weighing(n), (0,) + tuple(range(1, n))):
                for length in (1, 2):
                    if many_exchanges(n, w, length) <= 300:
                        one, other = (chance_sheet(source, n, 1, length) for _ in range(2))
                        alike = frozenset(plain_words(n, other)) in plain_guises(n, w, one)
                        self.check(n, w, one, other, alike)

    def test_rows_of_one_hour(self):
        # Sheets of one hour are alike exactly if it has the same depth.
        for n in CLOCKS:
            for a in range(n):
                for b in range(0, n, 5):
                    self.same(are_alike(n, plain_weighing(n), ((a,),), ((b,),)), gcd(a, n) == gcd(b, n))

    def test_unlike_keepers_are_no_factors(self):
        # No exchange of 5 with the plain weighing's factor 2 is one for the round weighing.
        self.same(are_alike(5, plain_weighing(5), ((1, 1),), ((1, 2),)), True)
        self.same(are_alike(5, round_weighing(5), ((1, 1),), ((1, 2),)), False)
        self.same(alike_holds(5, plain_weighing(5), ((1, 1),), ((1, 2),), ("alike", ((0, 1), (1, 2)))), True)
        self.same(alike_holds(5, round_weighing(5), ((1, 1),), ((1, 2),), ("alike", ((0, 1), (1, 2)))), False)

    def test_sheets_of_20_rows(self):
        source = chance(314)
        for n, w, sheet in drawn_cases(315, 10, 100):
            tall = sheet
            while len(tall) < 20:
                tall = beneath(n, tall, sheet[:20 - len(tall)])
            other = moved(source, n, w, sheet)
            kind, exchange = judge_alike(n, w, tall, other)
            self.assertEqual(kind, "alike")
            self.assertTrue(same_words(n, led_sheet(n, exchange, sheet), other))
            self.same(alike_holds(n, w, tall, other, (kind, exchange)), True)
            self.same(guises(n, w, tall), guises(n, w, sheet))

    def test_what_alike_sheets_have_in_common(self):
        source = chance(316)
        for n, w, sheet in drawn_cases(317, 40, 400):
            other = moved(source, n, w, sheet)
            self.same(many_of_weight(n, w, sheet), many_of_weight(n, w, other))
            self.same(orders_of_words(n, sheet), orders_of_words(n, other))
            steps = [sorted(gcd(n, *column) for column in zip(*rows)) for rows in (sheet, other)]
            self.assertEqual(steps[0], steps[1])
            self.check(n, w, annulled(n, sheet), annulled(n, other), True)
            if n ** len(sheet[0]) <= 600:
                self.assertEqual(plain_words(n, annulled(n, other)), plain_annulled(n, other))

    def test_annulled_sheets_are_alike_just_if_the_sheets_are(self):
        source = chance(318)
        for n, w, sheet in drawn_cases(319, 40, 200):
            other = chance_sheet(source, n, 1, len(sheet[0]))
            self.same(are_alike(n, w, annulled(n, sheet), annulled(n, other)), are_alike(n, w, sheet, other))


class Certificates(Case):
    def test_they_are_of_just_one_kind(self):
        source = chance(321)
        for n, w, sheet in drawn_cases(322, 25, 100):
            for other in (moved(source, n, w, sheet), chance_sheet(source, n, 1, len(sheet[0]))):
                things = [("alike", exchange) for exchange in plain_exchanges(n, w, len(sheet[0]))]
                ones, others = guises(n, w, sheet)[:3], guises(n, w, other)[:3]
                things += [("unlike", one, another) for one in ones for another in others]
                held = [thing for thing in things if alike_holds(n, w, sheet, other, thing)]
                self.assertEqual(held, [thing for thing in things if is_right(n, w, sheet, other, thing)])
                self.assertEqual(len({thing[0] for thing in held}), 1)
                if held[0][0] == "unlike":
                    self.assertEqual(held, [judge_alike(n, w, sheet, other)])

    def test_certificates_with_one_part_changed(self):
        for n, w, one, other in [
            (4, (0, 1, 2, 1), ((2, 1),), ((1, 2),)), (4, PLAIN, ((2, 1),), ((1, 1),)), (2, (0, 1), ((1,),), ((0,),)),
            (5, round_weighing(5), ((1, 2, 0),), ((0, 3, 1),)), (6, plain_weighing(6), ((2, 3),), ((1, 0), (0, 2))),
            (3, (0, 1, 2), ((1, 2, 0), (0, 1, 1)), ((2, 1, 0),)), (12, round_weighing(12), ((3, 4),), ((4, 9),)),
        ]:
            found = judge_alike(n, w, one, other)
            for thing in with_another_integer(found, (0, 1, n - 1, n, 10 ** 29)):
                self.same(alike_holds(n, w, one, other, thing), is_right(n, w, one, other, thing))
            for thing in misshapen(found):
                self.same(alike_holds(n, w, one, other, thing), False)

    def test_guises_that_are_not_the_least_ones(self):
        one, other = ((2, 1),), ((1, 1),)
        self.same(alike_holds(4, PLAIN, one, other, ("unlike", ((1, 2),), ((1, 1),))), True)
        for thing in (
            ("unlike", ((2, 1), (0, 2)), ((1, 1),)), ("unlike", ((3, 2),), ((1, 1),)), ("unlike", ((1, 1),), ((1, 2),)),
            ("unlike", ((1, 2),), ((1, 3),)), ("unlike", ((1, 2), (0, 0)), ((1, 1),)),
            ("unlike", ((1, 2),), ((True, 1),)), ("unlike", ((1, 2),)), ("unlike", ((1, 2),), ((1, 1),), 0),
        ):
            self.same(alike_holds(4, PLAIN, one, other, thing), False)
        # Least guises that are equal are no certificate.
        self.same(alike_holds(4, PLAIN, one, ((1, 2),), ("unlike", ((1, 2),), ((1, 2),))), False)

    def test_exchanges_of_other_lengths(self):
        for exchange in (((0,), (1,)), ((0, 1, 2), (1, 1, 1)), ((), ())):
            self.same(alike_holds(4, PLAIN, ((0, 0),), ((0, 0),), ("alike", exchange)), False)
        self.same(alike_holds(4, PLAIN, ((0, 0),), ((0, 0),), ("alike", ((1, 0), (3, 1)))), True)
        self.same(alike_holds(4, PLAIN, ((0, 0),), ((0, 0),), ("alike", ((1, 0), (3, 2)))), False)
        self.same(alike_holds(4, PLAIN, ((0, 0),), ((0, 0),), ("alike", ((True, 0), (3, 1)))), False)

    def test_any_value_as_certificate(self):
        wrong = odd_values() + [
            ("alike",), ("alike", None), ("alike", ((0, 1), (1, 1)), 0), ("unlike", (), ()), ("unlike", None, None),
            ("alike", ((0, 0), (1, 1))), ("alike", [(0, 1), (1, 1)]), ("unlike", [(1, 2)], [(1, 1)]),
        ]
        for thing in wrong:
            for other in (((1, 2),), ((1, 1),)):
                self.same(alike_holds(4, PLAIN, ((2, 1),), other, thing), False)

    def test_a_certificate_is_checked_for_sheets_of_20_columns(self):
        sheet = (tuple(range(20)), tuple(k * k % 30 for k in range(20)))
        places = tuple((7 * k + 3) % 20 for k in range(20))
        exchange = (places, (29, 1) * 10)
        other = led_sheet(30, exchange, sheet)[::-1]
        w = round_weighing(30)
        self.same(alike_holds(30, w, sheet, other, ("alike", exchange)), True)
        self.same(alike_holds(30, w, sheet, other, ("alike", (places, (1,) * 20))), False)
        self.assertTrue(same_words(30, other, led_sheet(30, exchange, sheet)))


class Wrong(Case):
    def test_wrong_weighings_and_sheets(self):
        for function in WITH_ONE:
            good = {"n": 4, "w": (0, 1, 2, 1), "sheet": ((2, 1),)}
            self.refuses(BadWeighing, function, good, "w", no_weighings())
            self.refuses(BadSheet, function, good, "sheet", no_sheets())
            self.raises(BadWeighing(None), function, n=4, w=None, sheet=None)
            self.raises(BadSheet([(1,)]), function, n=4, w=PLAIN, sheet=[(1,)])
        for function, more in [(function, {}) for function in WITH_TWO] + [(alike_holds, {"thing": None})]:
            good = {"n": 4, "w": (0, 1, 2, 1), "one": ((2, 1),), "other": ((1, 2),), **more}
            self.refuses(BadWeighing, function, good, "w", no_weighings())
            self.refuses(BadSheet, function, good, "one", no_sheets())
            self.refuses(BadSheet, function, good, "other", no_sheets())
            for other in (((1,),), ((1, 2, 3),), ((0,) * 20,)):
                self.raises(OtherLengths(), function, **{**good, "other": other})

    def test_the_first_error_of_two(self):
        for function, more in [(function, {}) for function in WITH_TWO] + [(alike_holds, {"thing": ("alike", 0)})]:
            self.raises(BadWeighing((0, 1)), function, n=4, w=(0, 1), one=None, other=None, **more)
            self.raises(BadWeighing((0, 1)), function, n=4, w=(0, 1), one=((1,),), other=((1, 2),), **more)
            self.raises(BadSheet(()), function, n=4, w=PLAIN, one=(), other=None, **more)
            self.raises(BadSheet(((4,),)), function, n=4, w=PLAIN, one=((1, 2),), other=((4,),), **more)
            self.raises(OtherLengths(), function, n=4, w=PLAIN, one=((1, 2),), other=((1,),), **more)
