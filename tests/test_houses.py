"""Tests of houses [14.1], of promises that hold at all times [14.2], and of deeds [14.4]."""

import itertools

from hoursheets.errors import (
    BadExchange, BadHour, BadName, BadPromise, BadRow, BadSheet, BadWeighing, Broken, Here, HourError, NoName,
    NothingToRedo, NothingToUndo,
)
from hoursheets.exchanges import is_exchange
from hoursheets.houses import House
from hoursheets.rows import is_sheet
from hoursheets.weighings import is_weighing, plain_weighing, round_weighing
from tests.helper import (
    CLOCKS, HOUSE_KINDS, NAMES, Case, chance, chance_house, deeds_of, no_sheets, no_weighings, odd_values,
    plain_against, plain_holds, plain_keepers, plain_led, plain_units, promises_of, related_sheet, told,
)

W = (0, 1, 2, 1)


def bad_names():
    """Values that cannot be names."""
    return [thing for thing in odd_values() if thing not in ("a", "sum")] + [
        "A", "aB", "a1", "a ", " a", "a\n", "a-b", "a_b", "abcdefghi", "`", "{", "a" * 2000, ("a",), ["a"], {"a": 1},
    ]


class Model:
    """What a house should be, told plainly: all states one after the other, and the one that holds now."""

    def __init__(self, n, w):
        self.n = n
        self.states = [(w, {}, ())]
        self.at = 0

    def now(self):
        return self.states[self.at]

    def told(self):
        w, sheets, promises = self.now()
        lines = ["clock " + str(self.n), "weights " + " ".join(map(str, w))]
        for name in sorted(sheets):
            lines += ["sheet " + name] + ["row " + " ".join(map(str, row)) for row in sheets[name]]
        lines += ["promise " + " ".join(map(str, promise)) for promise in promises]
        named = tuple((name, sheets[name]) for name in sorted(sheets))
        return (self.n, w, named, promises, "\n".join(lines), named)

    def first_broken(self, w, sheets):
        for promise in self.now()[2]:
            if not plain_holds(self.n, w, sheets, promise):
                return promise
        return None

    def after(self, deed, args):
        """The error that is due (for Broken with None as certificate), or the next state."""
        w, sheets, promises = self.now()
        made = getattr(self, deed)(*args)
        if isinstance(made, HourError):
            return made
        if deed not in ("leave", "make", "drop"):
            broken = self.first_broken(made[0], made[1])
            if broken is not None:
                return Broken(broken, None)
        return made

    def with_sheet(self, name, sheet):
        w, sheets, promises = self.now()
        return (w, {**sheets, name: sheet}, promises)

    def put(self, name, sheet):
        if not (isinstance(name, str) and 1 <= len(name) <= 8 and name.isascii() and name.isalpha() and name.islower()):
            return BadName(name)
        if name in self.now()[1]:
            return Here(name)
        return self.with_sheet(name, sheet) if is_sheet(self.n, sheet) else BadSheet(sheet)

    def leave(self, name):
        w, sheets, promises = self.now()
        if not isinstance(name, str) or name not in sheets:
            return NoName(name)
        others = {own: sheets[own] for own in sheets if own != name}
        return (w, others, tuple(promise for promise in promises if name not in promise[1:]))

    def exchange(self, name, exchange):
        w, sheets, promises = self.now()
        if not isinstance(name, str) or name not in sheets:
            return NoName(name)
        sheet = sheets[name]
        if not is_exchange(self.n, w, exchange) or len(exchange[0]) != len(sheet[0]):
            return BadExchange(exchange)
        return self.with_sheet(name, tuple(plain_led(self.n, exchange, row) for row in sheet))

    def add(self, name, one, other, number):
        sheets = self.now()[1]
        if not isinstance(name, str) or name not in sheets:
            return NoName(name)
        rows = list(sheets[name])
        for at in (one, other):
            if type(at) is not int or at not in range(len(rows)):
                return BadRow(at)
        if one == other:
            return BadRow(other)
        if type(number) is not int or number not in range(self.n):
            return BadHour(number)
        rows[one] = tuple((a + number * b) % self.n for a, b in zip(rows[one], rows[other]))
        return self.with_sheet(name, tuple(rows))

    def times(self, name, one, unit):
        sheets = self.now()[1]
        if not isinstance(name, str) or name not in sheets:
            return NoName(name)
        rows = list(sheets[name])
        if type(one) is not int or one not in range(len(rows)):
            return BadRow(one)
        if type(unit) is not int or unit not in plain_units(self.n):
            return BadHour(unit)
        rows[one] = tuple(unit * a % self.n for a in rows[one])
        return self.with_sheet(name, tuple(rows))

    def weigh(self, w):
        return (w,) + self.now()[1:] if is_weighing(self.n, w) else BadWeighing(w)

    def make(self, thing):
        w, sheets, promises = self.now()
        if thing not in promises_of(sheets, [thing[-1]]) or thing in promises:
            return BadPromise(thing)
        if not plain_holds(self.n, w, sheets, thing):
            return Broken(thing, None)
        return (w, sheets, promises + (thing,))

    def drop(self, thing):
        w, sheets, promises = self.now()
        if thing not in promises:
            return BadPromise(thing)
        return (w, sheets, tuple(promise for promise in promises if promise != thing))

    def become(self, state):
        self.states = self.states[:self.at + 1] + [state]
        self.at += 1


class Follow(Case):
    """Leads a house and its model through the same deeds."""

    def does(self, house, model, deed, args):
        """Does a deed in both, and looks at all that the house tells; returns the kind of what came of it."""
        expected = model.after(deed, args)
        before = told(house)
        if isinstance(expected, Broken):
            self.breaks(house, model, deed, args, expected.promise)
        elif isinstance(expected, HourError):
            self.raises(expected, getattr(house, deed), *args)
        else:
            self.same(getattr(house, deed)(*args), None)
            model.become(expected)
        if isinstance(expected, HourError):
            self.same(told(house), before)
        self.same(told(house), model.told())
        return type(expected)

    def breaks(self, house, model, deed, args, promise):
        """Whether a deed raises Broken with a promise and a right certificate against it."""
        w, sheets, _ = model.now() if deed == "make" else getattr(model, deed)(*args)
        with self.assertRaises(HourError) as held:
            getattr(house, deed)(*args)
        self.assertIs(type(held.exception), Broken)
        self.same(held.exception.promise, promise)
        self.assertTrue(plain_against(model.n, w, sheets, promise, held.exception.certificate))

    def undoes(self, house, model):
        if model.at == 0:
            self.raises(NothingToUndo(), house.undo)
        else:
            self.same(house.undo(), None)
            model.at -= 1
        self.same(told(house), model.told())

    def redoes(self, house, model):
        if model.at == len(model.states) - 1:
            self.raises(NothingToRedo(), house.redo)
        else:
            self.same(house.redo(), None)
            model.at += 1
        self.same(told(house), model.told())


def chance_deed(source, model, rows, length):
    """A deed with arguments that are often right."""
    n = model.n
    w, sheets, promises = model.now()
    names = sorted(sheets)
    name = source.choice(names) if names and source.randrange(15) else source.choice(NAMES)
    sheet = sheets.get(name, ((0,),))
    kinds = ["exchange", "add", "times", "weigh", "make"] * 4 + ["put"] * (24 // (1 + len(names))) + ["leave", "drop"]
    kind = source.choice(kinds)
    if kind == "put":
        return kind, (source.choice(NAMES), related_sheet(source, n, w, list(sheets.values()), rows, length))
    if kind == "leave":
        return kind, (name,)
    if kind == "exchange":
        own = source.choice((len(sheet[0]),) * 9 + (1, 2))
        factors = source.choices(plain_keepers(n, w) * 9 + [n - 1, 0], k=own)
        return kind, (name, (tuple(source.sample(range(own), own)), tuple(factors)))
    places = list(range(len(sheet))) * 5 + [len(sheet), -1]
    if kind == "add":
        return kind, (name, source.choice(places), source.choice(places), source.choice(list(range(n)) * 3 + [n, True]))
    if kind == "times":
        return kind, (name, source.choice(places), source.choice(plain_units(n) * 5 + [0, n]))
    if kind == "weigh":
        other = (0,) + tuple(source.randrange(1, 4) for _ in range(n - 1))
        return kind, (source.choice([w, tuple(2 * item for item in w), (0,) + (1,) * (n - 1), (0, 1), other]),)
    if kind == "drop":
        return kind, (source.choice(promises or [("least", "a", 1)]),)
    return kind, (chance_promise(source, n, w, sheets),)


def chance_promise(source, n, w, sheets):
    """A promise, mostly one with names of the house that holds."""
    if not sheets or source.randrange(12) == 0:
        return source.choice(promises_of(NAMES, (1,)))
    found = promises_of(sorted(sheets), (1, 2, 3, 10 ** 9))
    source.shuffle(found)
    holding = [promise for promise in found if source.randrange(4) and plain_holds(n, w, sheets, promise)]
    return (holding + found)[0]


def model_of(house):
    """A model in the state of a house, without the deeds."""
    model = Model(house.n, house.weighing())
    model.states = [(house.weighing(), dict(house.names()), house.promises())]
    return model


class Deeds(Follow):
    def test_examples(self):
        self.run_examples("""
>>> from hoursheets.houses import House
>>> house = House(4, (0, 1, 2, 1))
>>> [house.put('a', ((1, 2),)), house.put('b', ((2, 3),)), house.make(('alike', 'a', 'b')), house.times('b', 0, 3), house.names(), house.text()]
[None, None, None, None, (('a', ((1, 2),)), ('b', ((2, 1),))), 'clock 4\\nweights 0 1 2 1\\nsheet a\\nrow 1 2\\nsheet b\\nrow 2 1\\npromise alike a b']
>>> [house.undo(), house.sheet_of('b'), house.redo(), house.leave('b'), house.promises()]
[None, ((2, 3),), None, None, ()]
>>> house.make(('least', 'a', 3))
raises Broken(('least', 'a', 3), ('light', (2,)))
""")

    def test_a_new_house_of_each_clock(self):
        for n in CLOCKS:
            for w in (plain_weighing(n), round_weighing(n)):
                house = House(n=n, w=w)
                self.same((house.n, house.weighing(), house.names(), house.promises()), (n, w, (), ()))
                self.raises(NothingToUndo(), house.undo)
                self.raises(NothingToRedo(), house.redo)
                self.same(house.text(), f"clock {n}\nweights " + " ".join(map(str, w)))

    def test_drawn_deeds(self):
        source = chance(901)
        kinds = []
        for n, w, rows, length in HOUSE_KINDS * 6:
            house, model = House(n, w), Model(n, w)
            for _ in range(80):
                turn = source.randrange(12)
                if turn == 0:
                    self.undoes(house, model)
                elif turn == 1:
                    self.redoes(house, model)
                elif len(model.now()[1]) < 8 and len(model.now()[2]) < 8:
                    deed, args = chance_deed(source, model, rows, length)
                    kinds.append((deed, self.does(house, model, deed, args)))
                else:
                    self.does(house, model, "leave", (min(model.now()[1]),))
            while model.at > 0:
                self.undoes(house, model)
            self.undoes(house, model)
            while model.at < len(model.states) - 1:
                self.redoes(house, model)
            self.redoes(house, model)
        for deed in ("put", "leave", "exchange", "add", "times", "weigh", "make", "drop"):
            self.assertGreater(kinds.count((deed, tuple)), 30, deed)
        for deed in ("exchange", "add", "times", "weigh", "make"):
            self.assertIn((deed, Broken), kinds)

    def test_names_of_1_and_8_letters(self):
        house, model = House(4, W), Model(4, W)
        for name in ("a", "z", "abcdefgh", "zzzzzzzz", "clock", "sheet", "alike", "within"):
            self.does(house, model, "put", (name, ((1, 2),)))
        self.does(house, model, "make", (("alike", "alike", "within"),))
        self.does(house, model, "make", (("within", "alike", "within"),))
        self.does(house, model, "make", (("least", "alike", 2),))
        self.does(house, model, "leave", ("within",))
        self.same(house.promises(), (("least", "alike", 2),))
        self.does(house, model, "leave", ("alike",))

    def test_sheets_of_zeros_and_of_20_columns(self):
        house = House(30, round_weighing(30))
        house.put("a", ((0,) * 20,))
        house.put("b", (tuple(range(20)),))
        house.make(("within", "a", "b"))
        house.make(("least", "a", 10 ** 9))
        house.make(("least", "b", 1))
        house.exchange("b", (tuple(range(20))[::-1], (29, 1) * 10))
        self.same(house.sheet_of("b"), (tuple((29, 1)[k % 2] * (19 - k) % 30 for k in range(20)),))

    def test_a_deed_that_changes_nothing_counts(self):
        house = House(4, W)
        house.put("a", ((1, 2), (0, 2)))
        for deed, args in [
            ("exchange", ("a", ((0, 1), (1, 1)))), ("add", ("a", 0, 1, 0)), ("times", ("a", 1, 1)),
            ("times", ("a", 1, 3)), ("weigh", (W,)),
        ]:
            before = told(house)
            getattr(house, deed)(*args)
            self.same(told(house), before)
        self.assertEqual(deeds_of(house)[0], 7)
        for _ in range(5):
            house.undo()
            self.same(house.names(), (("a", ((1, 2), (0, 2))),))
        house.undo()
        self.same(house.names(), ())
        self.raises(NothingToUndo(), house.undo)
        for _ in range(6):
            house.redo()
        self.raises(NothingToRedo(), house.redo)
        # It makes deeds that were taken back impossible to redo, too.
        house.undo()
        house.weigh(W)
        self.raises(NothingToRedo(), house.redo)

    def test_a_deed_that_raises_an_error_is_none(self):
        house = House(4, W)
        house.put("a", ((1, 2),))
        house.put("b", ((2, 1),))
        house.make(("alike", "a", "b"))
        house.make(("least", "a", 2))
        house.times("a", 0, 3)
        house.undo()
        wrong = [
            ("put", ("a", ((1, 2),))), ("put", ("A", ((1, 2),))), ("put", ("c", ((4,),))), ("leave", ("c",)),
            ("exchange", ("c", ((0,), (1,)))), ("exchange", ("a", ((0,), (1,)))), ("add", ("a", 0, 0, 1)),
            ("times", ("a", 0, 2)), ("weigh", ((0, 1),)), ("weigh", ((0, 1, 1, 2),)), ("make", (("least", "a", 3),)),
            ("make", (("alike", "a", "b"),)), ("drop", (("alike", "b", "a"),)), ("drop", (None,)),
        ]
        for deed, args in wrong:
            before, history = told(house), deeds_of(house)
            with self.assertRaises(HourError):
                getattr(house, deed)(*args)
            self.same((told(house), deeds_of(house)), (before, history))
        self.same([house.redo(), house.sheet_of("a")], [None, ((3, 2),)])

    def test_undo_gives_back_left_names_and_their_promises(self):
        house = House(4, W)
        for name in ("b", "a", "c"):
            house.put(name, ((1, 2),))
        made = (("within", "c", "a"), ("least", "a", 2), ("alike", "b", "c"), ("kept", "a", "b"))
        for promise in made:
            house.make(promise)
        before = told(house)
        house.leave("a")
        self.same(house.promises(), (("alike", "b", "c"),))
        self.same([house.undo(), told(house)], [None, before])
        house.drop(("least", "a", 2))
        self.same(house.promises(), made[:1] + made[2:])
        self.same([house.undo(), told(house)], [None, before])
        house.drop(made[0])
        house.make(made[0])
        self.same(house.promises(), made[1:] + made[:1])

    def test_promises_stand_in_their_order(self):
        house = House(3, (0, 1, 1))
        house.put("b", ((1, 1),))
        house.put("a", ((1, 2),))
        order = [("least", "b", 2), ("alike", "a", "b"), ("kept", "b", "a"), ("kept", "a", "b"), ("least", "b", 1)]
        for promise in order:
            house.make(thing=promise)
        self.same(house.promises(), tuple(order))
        self.same(house.names(), (("a", ((1, 2),)), ("b", ((1, 1),))))


class Kept(Follow):
    """Promises that would not hold any more behind each kind of deed."""

    def house(self):
        house = House(4, W)
        house.put("a", ((1, 2), (0, 2)))
        house.put("b", ((1, 2), (2, 2)))
        house.put("c", ((1, 0), (0, 1)))
        return house

    def refuses_deed(self, house, deed, args, promise):
        """Whether a deed raises Broken with a promise and a right certificate, and is no deed."""
        history = deeds_of(house)
        model = model_of(house)
        self.same(model.after(deed, args).promise, promise)
        self.assertIs(self.does(house, model, deed, args), Broken)
        self.same(deeds_of(house), history)

    def test_exchange(self):
        house = self.house()
        promise = ("within", "a", "b")
        house.make(promise)
        swap = ((1, 0), (1, 1))
        house.exchange("c", swap)
        self.refuses_deed(house, "exchange", ("a", swap), promise)
        self.refuses_deed(house, "exchange", ("b", swap), promise)
        house.drop(promise)
        house.exchange("b", swap)
        self.same(house.sheet_of("b"), ((2, 1), (2, 2)))

    def test_add(self):
        house = self.house()
        house.put("d", ((0, 0), (0, 1)))
        house.put("e", ((0, 0), (0, 3)))
        promise = ("kept", "d", "e")
        house.make(promise)
        # The first row is the word of hours 0 in the one sheet alone.
        self.refuses_deed(house, "add", ("e", 0, 1, 1), promise)
        self.refuses_deed(house, "add", ("d", 0, 1, 1), promise)
        house.add("d", 1, 0, 3)
        house.drop(promise)
        house.add("e", 0, 1, 1)
        self.same(house.sheet_of("e"), ((0, 3), (0, 3)))

    def test_times(self):
        house = House(5, (0, 1, 2, 3, 4))
        house.put("a", ((1,), (1,)))
        house.put("b", ((1,), (1,)))
        promise = ("kept", "a", "b")
        house.make(promise)
        self.refuses_deed(house, "times", ("a", 1, 2), promise)
        self.refuses_deed(house, "times", ("b", 0, 2), promise)
        house.leave("a")
        house.times("b", 0, 2)
        self.same(house.sheet_of("b"), ((2,), (1,)))

    def test_weigh(self):
        house = House(4, (0, 1, 1, 1))
        for name, sheet in (("a", ((1,),)), ("b", ((2,),)), ("c", ((3,),)), ("f", ((1, 1),)), ("g", ((1, 3),))):
            house.put(name, sheet)
        for promise in (("least", "b", 1), ("kept", "a", "c"), ("alike", "a", "c")):
            house.make(promise)
        house.weigh((0, 1, 5, 1))
        self.refuses_deed(house, "weigh", ((0, 1, 1, 2),), ("kept", "a", "c"))
        house.drop(("kept", "a", "c"))
        # The words of the two are the same, so they are alike for all weighings.
        house.weigh((0, 1, 1, 2))
        house.weigh((0, 1, 1, 1))
        house.make(("alike", "f", "g"))
        self.refuses_deed(house, "weigh", ((0, 1, 1, 2),), ("alike", "f", "g"))
        house.weigh((0, 2, 2, 2))
        house.make(("least", "f", 3))
        self.refuses_deed(house, "weigh", ((0, 1, 1, 1),), ("least", "f", 3))
        # "within" does not ask for weights.
        house.drop(("least", "f", 3))
        house.drop(("alike", "f", "g"))
        house.make(("within", "a", "c"))
        house.weigh((0, 3, 1, 9))

    def test_the_first_one_of_several(self):
        made = [("least", "a", 2), ("within", "a", "b"), ("alike", "a", "b"), ("kept", "a", "b")]
        for order in itertools.permutations(made):
            house = House(4, W)
            house.put("a", ((1, 2), (0, 0)))
            house.put("b", ((1, 2), (0, 0)))
            for promise in order:
                house.make(promise)
            # With the row 2 3 only the words differ, with the row 1 3 weights, too.
            model = Model(4, W)
            model.become((W, dict(house.names()), tuple(order)))
            self.does(house, model, "exchange", ("a", ((1, 0), (1, 1))))
            self.does(house, model, "exchange", ("b", ((1, 0), (1, 3))))
            self.does(house, model, "weigh", ((0, 1, 1, 1),))
            self.does(house, model, "weigh", ((0, 1, 1, 5),))

    def test_promises_with_other_names_do_not_matter(self):
        house = self.house()
        house.make(("within", "a", "c"))
        house.make(("least", "b", 1))
        house.exchange("a", ((1, 0), (3, 1)))
        self.same(house.promises(), (("within", "a", "c"), ("least", "b", 1)))


class Copies(Follow):
    def test_a_copy_tells_the_same(self):
        source = chance(911)
        for _ in range(40):
            house = chance_house(source)
            for _ in range(source.randrange(deeds_of(house)[0])):
                house.undo()
            other = house.copied()
            self.assertIsInstance(other, House)
            self.assertIsNot(other, house)
            self.same((told(other), deeds_of(other)), (told(house), deeds_of(house)))
            self.same([house.is_same(other), other.is_same(house)], [True, True])

    def test_deeds_in_one_of_the_two(self):
        source = chance(912)
        for turn in range(40):
            house = chance_house(source)
            for _ in range(source.randrange(deeds_of(house)[0])):
                house.undo()
            other = house.copied()
            if turn % 2:
                house, other = other, house
            before = (told(house), deeds_of(house))
            for deed, args in [
                ("put", ("new", ((0,),))), ("make", (("least", "new", 7),)), ("weigh", (plain_weighing(house.n),)),
                ("times", ("new", 0, 1)), ("undo", ()), ("undo", ()), ("redo", ()), ("put", ("other", ((1,),))),
                ("leave", ("new",)), ("undo", ()),
            ]:
                try:
                    getattr(other, deed)(*args)
                except HourError:
                    pass
                self.same((told(house), deeds_of(house)), before)
            self.assertFalse(house.is_same(other))
            while deeds_of(house)[0] > 1:
                house.undo()
            self.same([house.names(), house.promises()], [(), ()])

    def test_a_copy_of_a_new_house(self):
        house = House(7, plain_weighing(7))
        other = house.copied()
        self.raises(NothingToUndo(), other.undo)
        self.raises(NothingToRedo(), other.redo)
        house.put("a", ((1,),))
        self.same(other.names(), ())
        self.raises(NothingToUndo(), other.undo)


class Same(Case):
    def test_is_same(self):
        one, other = House(4, W), House(4, W)
        self.same([one.is_same(other), one.is_same(one), one.is_same(thing=other)], [True, True, True])
        one.put("a", ((1, 2),))
        self.same([one.is_same(other), other.is_same(one)], [False, False])
        other.put("a", ((1, 3),))
        self.same(one.is_same(other), False)
        other.leave("a")
        other.put("a", ((1, 2),))
        # The deeds do not matter.
        self.same([one.is_same(other), other.is_same(one)], [True, True])
        one.make(("least", "a", 2))
        self.same(one.is_same(other), False)
        other.make(("least", "a", 1))
        self.same(one.is_same(other), False)
        self.same(House(4, W).is_same(House(4, (0, 1, 1, 1))), False)
        self.same(House(2, (0, 1)).is_same(House(3, (0, 1, 1))), False)

    def test_any_value(self):
        house = House(4, W)
        house.put("a", ((1, 2),))
        for thing in odd_values() + [house.text(), (house,), [house], {0: house}, told(house), house.names()]:
            self.same(house.is_same(thing), False)

    def test_comparisons_raise_nothing(self):
        house, other = House(4, W), House(4, W)
        for thing in odd_values() + [other, (other,), (house, other), [other], {0: other}]:
            for one in (house, (house,), (other, house), [house], {0: house}):
                self.assertIs(type(one == thing), bool)
                self.assertIs(type(one != thing), bool)
                self.assertEqual(one != thing, not one == thing)
                self.assertIs(type(thing == one), bool)


class Wrong(Follow):
    def house(self):
        house = House(4, W)
        house.put("a", ((1, 2), (0, 2)))
        house.put("b", ((2, 3),))
        house.make(("least", "b", 2))
        house.put("c", ((0,),))
        house.undo()
        return house

    def refuses_all(self, error, deed, args, name, wrong):
        """Whether a method raises an error with the value, for each wrong value, and nothing changes."""
        house = self.house()
        before = (told(house), deeds_of(house))
        self.refuses(error, getattr(house, deed), args, name, wrong)
        self.same((told(house), deeds_of(house)), before)

    def test_new_houses(self):
        self.refuses(BadWeighing, House, {"n": 4}, "w", no_weighings())

    def test_names(self):
        self.refuses_all(BadName, "put", {"sheet": ((1,),)}, "name", bad_names())
        self.refuses_all(Here, "put", {"sheet": ((1,),)}, "name", ["a", "b"])
        self.refuses_all(BadSheet, "put", {"name": "c"}, "sheet", no_sheets())
        for deed, more in [
            ("sheet_of", {}), ("leave", {}), ("exchange", {"exchange": ((0, 1), (1, 1))}),
            ("add", {"one": 0, "other": 1, "number": 1}), ("times", {"one": 0, "unit": 3}),
        ]:
            self.refuses_all(NoName, deed, more, "name", bad_names() + ["c", "aa", "sum", "abcdefgh"])

    def test_exchanges(self):
        wrong = odd_values() + [
            ((0,), (1,)), ((0, 1, 2), (1, 1, 1)), ((0, 0), (1, 1)), ((0, 1), (1, 2)), ((0, 1), (1, True)),
            ((1, 2), (1, 1)),
            ([0, 1], (1, 1)), ((0, 1), (1,)), [(0, 1), (1, 1)], ((0, 1), (1, 1), 0), ((0, True), (1, 1)),
            ((0, 1), (1, 5)),
        ]
        self.refuses_all(BadExchange, "exchange", {"name": "a"}, "exchange", wrong)
        # A unit that is no keeper is no factor.
        house = House(5, (0, 1, 2, 2, 1))
        house.put("a", ((1,),))
        self.raises(BadExchange(((0,), (2,))), house.exchange, "a", ((0,), (2,)))
        house.exchange("a", ((0,), (4,)))

    def test_rows_and_hours(self):
        places = [thing for thing in odd_values()] + [2, 3, -1, -2, (0,), [0], "0", True, False, None, 10 ** 30]
        self.refuses_all(BadRow, "add", {"name": "a", "other": 1, "number": 1}, "one", places)
        self.refuses_all(BadRow, "add", {"name": "a", "one": 0, "number": 1}, "other", places + [0])
        self.refuses_all(BadRow, "add", {"name": "a", "one": 1, "number": 1}, "other", places + [1])
        self.refuses_all(BadRow, "times", {"name": "a", "unit": 3}, "one", places)
        hours = odd_values() + [4, -1, (1,), [1], "1", 10 ** 30]
        self.refuses_all(BadHour, "add", {"name": "a", "one": 0, "other": 1}, "number", hours)
        self.refuses_all(BadHour, "times", {"name": "a", "one": 0}, "unit", hours + [0, 2])
        self.refuses_all(BadRow, "add", {"name": "b", "one": 0, "number": 1}, "other", [0, 1])

    def test_weighings(self):
        self.refuses_all(BadWeighing, "weigh", {}, "w", no_weighings())

    def test_promises(self):
        wrong = odd_values() + [
            ("alike", "a", "a"), ("alike", "b", "a"), ("alike", "a", "c"), ("kept", "a", "a"), ("within", "b", "b"),
            ("within", "c", "a"), ("least", "a", 0), ("least", "a", 10 ** 9 + 1), ("least", "a", True),
            ("least", "c", 1),
            ("least", "a", "1"), ("least", "a", "b"), ("least", 1, "a"), ("alike", "a"), ("alike", "a", "b", "b"),
            ["alike", "a", "b"], ("Alike", "a", "b"), ("most", "a", "b"), (None, "a", "b"), ("alike", "a", 1),
            ("alike", ["a"], "b"), ("kept", ("a",), "b"), ("least", "a", (1,)), ("alike", "a", None), ("", "a", "b"),
            ("least", "a", -1), ("least", "a", 10 ** 39), {"alike": "a"}, (("alike",), "a", "b"), ("alike", "", "a"),
        ]
        self.refuses_all(BadPromise, "make", {}, "thing", wrong + [("least", "b", 2)])
        right = [("alike", "a", "b"), ("least", "b", 1), ("kept", "a", "b"), ("within", "b", "a"), ("least", "a", 2)]
        self.refuses_all(BadPromise, "drop", {}, "thing", wrong + right)
        # 1 is True for Python, but not here.
        house = self.house()
        house.make(("least", "a", 1))
        self.raises(BadPromise(("least", "a", True)), house.drop, ("least", "a", True))
        self.raises(BadPromise(("least", "a", True)), house.make, ("least", "a", True))
        house.drop(thing=("least", "a", 1))

    def test_the_first_error_of_two(self):
        house = self.house()
        before = (told(house), deeds_of(house))
        for error, deed, args in [
            (BadName("A"), "put", ("A", None)), (Here("a"), "put", ("a", None)), (NoName("c"), "exchange", ("c", None)),
            (NoName(None), "add", (None, None, None, None)), (BadRow(None), "add", ("a", None, None, None)),
            (BadRow(7), "add", ("a", 7, 8, 9)), (BadRow(8), "add", ("a", 0, 8, 9)), (BadRow(1), "add", ("a", 1, 1, 9)),
            (BadRow(2), "add", ("a", 2, 2, 9)), (NoName("c"), "times", ("c", 9, 9)), (BadRow(9), "times", ("a", 9, 9)),
            (BadHour(9), "times", ("a", 0, 9)), (BadHour(9), "add", ("a", 0, 1, 9)), (NoName([]), "leave", ([],)),
        ]:
            self.raises(error, getattr(house, deed), *args)
        # Wrong arguments come ahead of a promise that would not hold.
        self.raises(BadWeighing((0, 1, 1)), house.weigh, (0, 1, 1))
        self.raises(Broken(("least", "b", 2), ("light", (2,))), house.weigh, (0, 1, 1, 1))
        self.same((told(house), deeds_of(house)), before)

    def test_methods_that_tell_change_nothing(self):
        source = chance(921)
        for _ in range(15):
            house = chance_house(source)
            before = (told(house), deeds_of(house))
            results = [house.weighing(), house.names(), house.promises(), house.text()]
            results += [house.copied(), house.is_same(house)]
            results += [house.sheet_of(name=name) for name, _ in house.names()]
            self.same((told(house), deeds_of(house)), before)
            for result in results[:3] + results[6:]:
                self.assertIs(type(result), tuple)
            self.same([type(results[3]), type(results[5])], [str, bool])
