"""Tests of promises, made or not [14.2], and of certificates against them [14.3]."""

from hoursheets.errors import BadPromise
from hoursheets.houses import House
from hoursheets.likeness import alike_holds
from hoursheets.promises import against_holds, judge_promise
from hoursheets.texts import read_house
from tests.helper import (
    HOUSE_KINDS, Case, chance, chance_house, chance_sheets, deeds_of, misshapen, odd_values, plain_against,
    plain_exchanges, plain_holds, plain_least_guise, promises_of, rows_of, told, with_another_integer,
)

W = (0, 1, 2, 1)


def house_of(n, w, **sheets):
    house = House(n, w)
    for name, sheet in sheets.items():
        house.put(name, sheet)
    return house


def drawn_houses(seed, many):
    """Houses without promises."""
    source = chance(seed)
    found = []
    for turn in range(many):
        n, w, rows, length = HOUSE_KINDS[turn % len(HOUSE_KINDS)]
        found.append(house_of(n, w, **chance_sheets(source, n, w, rows, length, ("a", "b", "c"))))
    return found


def things_against(house, promise):
    """All values of the forms of certificates against a promise, with small numbers, right ones and others."""
    n, sheets = house.n, dict(house.names())
    one = sheets[promise[1]]
    other = one if promise[0] == "least" else sheets[promise[2]]
    x = rows_of(n, len(one))
    things = [(kind, k, m) for kind in ("lengths", "rows") for k in range(5) for m in range(5)]
    things += [(kind, multipliers) for kind in ("clash", "word", "light") for multipliers in x]
    bars = rows_of(n, len(other[0]))
    things += [("barred", at, bar) for at in range(-1, len(one) + 1) for bar in bars[:: 1 + len(bars) // 40]]
    guises = [plain_least_guise(n, house.weighing(), sheet) for sheet in (one, other)] + [one, other]
    things += [("unlike", guise, another) for guise in guises for another in guises]
    exchanges = plain_exchanges(n, house.weighing(), len(one[0]))
    return things + [("alike", exchange) for exchange in exchanges[:60]] + [("holds",)]


class Judged(Case):
    def check(self, house, promise):
        sheets = dict(house.names())
        found = judge_promise(house, promise)
        self.assertIs(type(found), tuple)
        holds = plain_holds(house.n, house.weighing(), sheets, promise)
        if holds:
            self.same(found, ("holds",))
        else:
            self.assertTrue(plain_against(house.n, house.weighing(), sheets, promise, found), (promise, found))
        self.same(against_holds(house, promise, found), not holds)
        return (promise[0], found[0])

    def test_drawn_houses(self):
        found = []
        for house in drawn_houses(921, 200):
            before = (told(house), deeds_of(house))
            for promise in promises_of("abc", (1, 2, 3, 7, 10 ** 9)):
                found.append(self.check(house, promise))
            self.same((told(house), deeds_of(house)), before)
        kinds = [(kind, "holds") for kind in ("alike", "kept", "within", "least")]
        kinds += [("alike", "lengths"), ("alike", "unlike"), ("kept", "rows"), ("kept", "clash"), ("kept", "word")]
        kinds += [("within", "lengths"), ("within", "barred"), ("least", "light")]
        self.assertEqual(set(found), set(kinds))
        for kind in kinds:
            self.assertGreater(found.count(kind), 15, kind)

    def test_made_promises_hold(self):
        source = chance(922)
        for _ in range(60):
            house = chance_house(source)
            for promise in house.promises():
                self.same(judge_promise(house=house, promise=promise), ("holds",))

    def test_promises_that_can_be_made_are_those_that_hold(self):
        for house in drawn_houses(923, 30):
            for promise in promises_of("abc", (1, 2, 3)):
                other = house.copied()
                if judge_promise(house, promise) == ("holds",):
                    other.make(promise)
                    self.same(other.promises(), (promise,))
                else:
                    with self.assertRaises(Exception) as held:
                        other.make(promise)
                    self.same(held.exception.promise, promise)
                    self.same(against_holds(house, promise, held.exception.certificate), True)

    def test_kept_maps_can_have_another_length(self):
        house = house_of(4, W, a=((1, 0, 2),), b=((3, 2),), c=((1, 1),), d=((1, 2), (0, 0)))
        for promise in (("kept", "a", "b"), ("kept", "b", "a")):
            self.same(judge_promise(house, promise), ("holds",))
        self.same(judge_promise(house, ("alike", "a", "b")), ("lengths", 3, 2))
        self.same(judge_promise(house, ("within", "b", "a")), ("lengths", 2, 3))
        self.assertIn(judge_promise(house, ("kept", "a", "c")), [("word", (1,)), ("word", (3,)), ("word", (2,))])
        self.same(judge_promise(house, ("kept", "a", "d")), ("rows", 1, 2))
        self.same(judge_promise(house, ("kept", "d", "a")), ("rows", 2, 1))

    def test_sheets_of_one_word(self):
        house = house_of(4, W, a=((0, 0),), b=((1, 2),), c=((0, 0), (0, 0)))
        for promise, holds in [
            (("least", "a", 10 ** 9), True), (("within", "a", "b"), True), (("within", "b", "a"), False),
            (("kept", "b", "a"), False), (("kept", "a", "b"), False), (("alike", "a", "b"), False),
            (("alike", "a", "c"), True), (("kept", "a", "c"), False), (("within", "c", "a"), True),
            (("least", "b", 2), True), (("least", "b", 3), False), (("within", "b", "c"), False),
        ]:
            self.assertEqual(judge_promise(house, promise) == ("holds",), holds, promise)
            self.check(house, promise)


class Against(Case):
    def test_all_certificates_of_small_houses(self):
        found = set()
        for house in drawn_houses(931, 40):
            n, w, sheets = house.n, house.weighing(), dict(house.names())
            for promise in promises_of("abc", (1, 2, 4)):
                for thing in things_against(house, promise):
                    right = thing != ("holds",) and plain_against(n, w, sheets, promise, thing)
                    self.same(against_holds(house, promise, thing), right)
                    if right:
                        found.add((promise[0], thing[0]))
                        self.assertFalse(plain_holds(n, w, sheets, promise))
        self.assertEqual(len(found), 8)

    def cases(self):
        """Pairs of a house and a promise that does not hold, with each kind of certificate."""
        house = house_of(
            4, W, a=((1, 2),), b=((1, 1),), c=((1, 2, 0),), d=((2,),), e=((1,),), f=((1, 2), (0, 2)), g=((2, 1),),
        )
        promises = [
            ("alike", "a", "b"), ("alike", "a", "c"), ("kept", "a", "f"), ("kept", "d", "e"), ("kept", "a", "b"),
            ("within", "a", "c"), ("within", "b", "a"), ("within", "f", "g"), ("least", "a", 3),
            ("least", "f", 10 ** 9),
        ]
        return [(house, promise) for promise in promises]

    def test_certificates_with_one_part_changed(self):
        kinds = set()
        for house, promise in self.cases():
            sheets = dict(house.names())
            found = judge_promise(house, promise)
            kinds.add(found[0])
            self.same(against_holds(house, promise, found), True)
            for thing in with_another_integer(found, (0, 1, 2, 3, 4, 10 ** 29)):
                right = plain_against(4, W, sheets, promise, thing)
                self.same(against_holds(house, promise, thing), right)
            for thing in misshapen(found):
                self.same(against_holds(house, promise, thing), False)
        self.assertEqual(kinds, {"lengths", "unlike", "rows", "clash", "word", "barred", "light"})

    def test_certificates_of_other_kinds(self):
        # Each certificate stands against its own promise, or one with the same words, alone.
        cases = [(house, promise, judge_promise(house, promise)) for house, promise in self.cases()]
        for house, promise, _ in cases:
            for _, _, found in cases:
                right = plain_against(4, W, dict(house.names()), promise, found) if self.fits(promise, found) else False
                self.same(against_holds(house, promise, found), right)

    def fits(self, promise, found):
        kinds = {
            "alike": ("lengths", "unlike"), "kept": ("rows", "clash", "word"), "within": ("lengths", "barred"),
            "least": ("light",),
        }
        return found[0] in kinds[promise[0]]

    def test_a_word_stands_against_sound_maps_alone(self):
        house = house_of(4, W, a=((2, 0), (0, 2)), b=((2, 2), (0, 1)))
        promise = ("kept", "a", "b")
        self.same(against_holds(house, promise, ("clash", (0, 2))), True)
        # The word of 1 0 weighs 2 and its image 4, but the map is not sound.
        self.same(against_holds(house, promise, ("word", (1, 0))), False)
        house = house_of(4, W, a=((2, 0), (0, 2)), b=((2, 2), (0, 2)))
        self.same(against_holds(house, promise, ("word", (1, 0))), True)
        self.same(against_holds(house, promise, ("word", (1, 1))), True)
        self.same(against_holds(house, promise, ("word", (0, 1))), False)

    def test_light_words_of_hours_0_are_no_certificate(self):
        house = house_of(4, W, a=((2,),))
        for weight, expected in [(3, [False, True, False, True]), (2, [False] * 4)]:
            found = [against_holds(house, ("least", "a", weight), ("light", (x,))) for x in range(4)]
            self.same(found, expected)

    def test_any_value_as_certificate(self):
        wrong = odd_values() + [
            ("holds",), ("lengths",), ("lengths", 2), ("lengths", None, None), ("lengths", True, 3), ("rows", True, 2),
            ("clash",), ("clash", None), ("word", None), ("word", ()), ("word", (True,)), ("barred", 0),
            ("barred", None, None),
            ("barred", False, (0, 1)), ("barred", 0, None), ("barred", (0,), (0, 1)), ("light", None),
            ("light", (True,)),
            ("light", ()), ("light", (1, 1, 1)), ("unlike", None, None), ("unlike", (), ()),
            ("alike", ((0, 1), (1, 1))),
        ]
        for house, promise in self.cases():
            for thing in wrong + [house, (house,), ("holds", house), ("light", house), ("barred", house, house)]:
                self.same(against_holds(house, promise, thing), False)
        self.same(against_holds(house=house, promise=("least", "a", 3), thing=("light", (2,))), True)

    def test_nothing_is_against_promises_that_hold(self):
        house = house_of(4, W, a=((1, 2),), b=((3, 2),))
        for promise in [("alike", "a", "b"), ("kept", "a", "b"), ("within", "b", "a"), ("least", "a", 2)]:
            self.same(judge_promise(house, promise), ("holds",))
            for thing in things_against(house, promise):
                self.same(against_holds(house, promise, thing), False)
        # A certificate that the two are alike is none against the promise.
        self.same(alike_holds(4, W, ((1, 2),), ((3, 2),), ("alike", ((0, 1), (1, 1)))), True)
        self.same(against_holds(house, ("alike", "a", "b"), ("alike", ((0, 1), (1, 1)))), False)


class Wrong(Case):
    def test_wrong_promises(self):
        house = house_of(4, W, a=((1, 2),), b=((3, 2),), least=((1,),))
        house.make(("alike", "a", "b"))
        wrong = odd_values() + [
            ("alike", "b", "a"), ("alike", "a", "a"), ("kept", "a", "a"), ("within", "a", "a"), ("alike", "a", "c"),
            ("kept", "c", "a"), ("least", "c", 1), ("least", "a", 0), ("least", "a", -5), ("least", "a", 10 ** 9 + 1),
            ("least", "a", True), ("least", "a", "1"), ("least", "a", "b"), ("least", "a", None), ("least", ["a"], 1),
            ("alike", "a", ["b"]), ["alike", "a", "b"], ("alike", "a", "b", 0), ("alike", "a"), ("ALIKE", "a", "b"),
            (["alike"], "a", "b"), (None, "a", "b"), ("made", "a", "b"), house, (house, "a", "b"), ("kept", house, "a"),
            ("least", "a", house), ("kept", "a", {"b": 1}), ("alike", "A", "b"), ("alike", "", "b"),
            {"least": ("a", 1)},
        ]
        before = (told(house), deeds_of(house))
        self.refuses(BadPromise, judge_promise, {"house": house}, "promise", wrong)
        self.refuses(BadPromise, against_holds, {"house": house, "thing": ("holds",)}, "promise", wrong)
        self.same((told(house), deeds_of(house)), before)
        # Promises that are made already are judged, too.
        self.same(judge_promise(house, ("alike", "a", "b")), ("holds",))
        self.same(judge_promise(house, ("least", "least", 1)), ("holds",))

    def test_names_that_left(self):
        house = house_of(4, W, a=((1, 2),), b=((3, 2),))
        house.leave("b")
        self.raises(BadPromise(("alike", "a", "b")), judge_promise, house, ("alike", "a", "b"))
        house.undo()
        self.same(judge_promise(house, ("alike", "a", "b")), ("holds",))

    def test_houses_that_were_read(self):
        house = read_house("clock 4\nweights 0 1 2 1\nsheet a\nrow 1 2\nsheet b\nrow 3 3")
        other = house_of(4, W, a=((1, 2),), b=((3, 3),))
        for promise in promises_of("ab", (2, 3)):
            self.same(judge_promise(house, promise), judge_promise(other, promise))
