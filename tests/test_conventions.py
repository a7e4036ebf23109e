"""Tests of the conventions [0.2], for all functions of the interface at once."""

import copy
import importlib
import inspect

from hoursheets import errors
from hoursheets.errors import HourError
from hoursheets.houses import House
from tests.helper import Case, deeds_of, odd_values, told



def some_house():
    """A house with sheets, a promise, deeds to undo and deeds to redo."""
    house = House(4, (0, 1, 2, 1))
    house.put("a", ((1, 2), (0, 2)))
    house.put("b", ((2, 3), (2, 0)))
    house.make(("alike", "a", "b"))
    house.drop(("alike", "a", "b"))
    house.put("c", ((0,),))
    house.undo()
    house.undo()
    return house


HOUSE = some_house()

# For each method of a house: its parameters in order, and some right arguments.
TELLING = {
    "weighing": {}, "names": {}, "sheet_of": {"name": "a"}, "promises": {}, "copied": {}, "text": {},
    "is_same": {"thing": HOUSE},
}
DEEDS = {
    "put": {"name": "d", "sheet": ((1, 2),)},
    "leave": {"name": "a"},
    "exchange": {"name": "c", "exchange": ((0,), (3,))},
    "add": {"name": "a", "one": 0, "other": 1, "number": 3},
    "times": {"name": "b", "one": 1, "unit": 3},
    "weigh": {"w": (0, 2, 3, 2)},
    "make": {"thing": ("least", "a", 1)},
    "drop": {"thing": ("alike", "a", "b")},
    "undo": {},
    "redo": {},
}

# For each module: each function, its parameters in order, and some right arguments.
INTERFACE = {
    "clocks": {
        "is_clock": {"thing": 12},
        "is_hour": {"n": 12, "thing": 11},
        "is_unit": {"n": 12, "thing": 11},
        "units": {"n": 12},
        "divisors": {"n": 12},
        "depth": {"n": 12, "hour": 8},
        "order": {"n": 12, "hour": 8},
        "inverse": {"n": 12, "unit": 5},
        "unit_between": {"n": 12, "one": 2, "other": 10},
    },
    "sums": {
        "sign_number": {"m": 30},
        "unit_number": {"m": 12},
        "sum_number": {"m": 6, "a": 2},
        "depth_table": {"n": 4},
    },
    "rows": {
        "is_row": {"n": 6, "thing": (1, 5)},
        "is_sheet": {"n": 6, "thing": ((1, 5),)},
        "row_sum": {"n": 6, "one": (1, 5), "other": (2, 3)},
        "row_product": {"n": 6, "one": (1, 5), "other": (2, 4)},
        "row_multiple": {"n": 6, "number": -1, "row": (1, 0)},
        "word_of": {"n": 6, "sheet": ((1, 2, 0), (0, 3, 1)), "multipliers": (2, 1)},
        "columns_of": {"n": 6, "sheet": ((1, 2, 0), (0, 3, 1))},
        "sheet_of": {"n": 6, "columns": ((1, 0), (2, 3), (0, 1))},
    },
    "reduced": {
        "reduced": {"n": 4, "sheet": ((2, 1),)},
        "is_reduced": {"n": 4, "thing": ((2, 1), (0, 2))},
        "many_words": {"n": 4, "sheet": ((2, 1),)},
        "words_of": {"n": 4, "sheet": ((2, 1),)},
        "orders_of_words": {"n": 4, "sheet": ((2, 1),)},
        "same_words": {"n": 4, "one": ((2, 1),), "other": ((2, 3), (0, 2))},
    },
    "within": {
        "judge_within": {"n": 4, "sheet": ((2, 1),), "row": (0, 2)},
        "within_holds": {"n": 4, "sheet": ((2, 1),), "row": (0, 1), "thing": ("barred", (1, 2))},
        "is_within": {"n": 4, "sheet": ((2, 1),), "row": (0, 2)},
        "least_on_shelf": {"n": 4, "sheet": ((2, 1),), "row": (3, 3)},
    },
    "annulled": {
        "annulled": {"n": 4, "sheet": ((2, 1),)},
        "is_annulled": {"n": 4, "sheet": ((2, 1),), "thing": (2, 0)},
        "sum_of": {"n": 4, "one": ((2, 1),), "other": ((0, 1),)},
        "meet_of": {"n": 4, "one": ((2, 1),), "other": ((0, 1),)},
        "multiples_of": {"n": 4, "sheet": ((2, 1),), "t": 2},
        "part_of": {"n": 4, "sheet": ((2, 1),), "t": 2},
        "divided": {"n": 4, "sheet": ((2, 1),), "t": 2},
        "has_words": {"n": 4, "one": ((2, 1),), "other": ((0, 2),)},
    },
    "weighings": {
        "is_weighing": {"n": 6, "thing": (0, 1, 2, 3, 2, 1)},
        "plain_weighing": {"n": 6},
        "round_weighing": {"n": 6},
        "square_weighing": {"n": 6},
        "level_weighing": {"n": 6},
        "weight_of": {"n": 6, "w": (0, 1, 2, 3, 2, 1), "row": (2, 3, 0)},
        "keepers": {"n": 6, "w": (0, 1, 2, 3, 2, 1)},
        "classes": {"n": 6, "w": (0, 1, 2, 3, 2, 1)},
        "weight_table": {"n": 6, "w": (0, 1, 2, 3, 2, 1)},
        "is_alike_on_units": {"n": 6, "w": (0, 1, 2, 3, 2, 1)},
        "depth_sums": {"n": 6, "w": (0, 1, 2, 3, 2, 1)},
    },
    "telling": {
        "judge_weighing": {"n": 6, "w": (0, 3, 1, 2, 1, 3)},
        "weighing_holds": {"n": 6, "w": (0, 3, 1, 2, 1, 3), "thing": ("loses", (1, -1, -1))},
        "is_telling": {"n": 6, "w": (0, 1, 2, 3, 2, 1)},
        "rank_of": {"n": 6, "w": (0, 3, 1, 2, 1, 3)},
        "two_sheets": {"n": 6, "w": (0, 3, 1, 2, 1, 3), "counts": (-2, 2, 2)},
        "two_rows_at": {"n": 6, "divisor": 1},
    },
    "weights": {
        "many_of_weight": {"n": 4, "w": (0, 1, 2, 1), "sheet": ((2, 1),)},
        "least_weight": {"n": 4, "w": (0, 1, 2, 1), "sheet": ((2, 1),)},
        "lightest": {"n": 4, "w": (0, 1, 2, 1), "sheet": ((2, 1),)},
        "total_weight": {"n": 4, "w": (0, 1, 2, 1), "sheet": ((2, 1),)},
        "distance": {"n": 4, "w": (0, 1, 2, 3), "one": (0, 0), "other": (2, 3)},
        "untame_pair": {"n": 4, "w": (0, 1, 3, 1)},
        "is_tame": {"n": 4, "w": (0, 1, 3, 1)},
        "is_mirrored": {"n": 4, "w": (0, 1, 3, 1)},
    },
    "maps": {
        "judge_sound": {"n": 4, "sheet": ((1, 2),), "images": ((2, 1),)},
        "sound_holds": {"n": 4, "sheet": ((2,),), "images": ((1,),), "thing": ("clash", (2,))},
        "is_sound": {"n": 4, "sheet": ((2,),), "images": ((1,),)},
        "is_one_to_one": {"n": 4, "sheet": ((1, 2),), "images": ((2, 0),)},
        "leads_to": {"n": 4, "sheet": ((1, 2),), "images": ((3, 2),), "other": ((1, 2),)},
        "unkept_word": {"n": 4, "w": (0, 1, 2, 1), "sheet": ((1, 2),), "images": ((1, 1),)},
    },
    "exchanges": {
        "is_exchange": {"n": 4, "w": (0, 1, 1, 1), "thing": ((1, 0), (1, 3))},
        "exchanged": {"n": 4, "w": (0, 1, 1, 1), "exchange": ((1, 0), (1, 3)), "row": (1, 2)},
        "both": {"n": 4, "w": (0, 1, 1, 1), "first": ((1, 0), (1, 3)), "second": ((0, 1), (3, 3))},
        "undone": {"n": 4, "w": (0, 1, 1, 1), "exchange": ((1, 0), (1, 3))},
        "column_class": {"n": 4, "w": (0, 1, 1, 1), "column": (3, 2)},
        "class_counts": {"n": 4, "w": (0, 1, 1, 1), "sheet": ((1, 2, 0, 3),)},
        "judge_made": {"n": 4, "w": (0, 1, 1, 1), "sheet": ((1, 2),), "images": ((2, 3),)},
        "made_holds": {
            "n": 4, "w": (0, 1, 1, 1), "sheet": ((1, 2),), "images": ((1, 1),), "thing": ("unlike", (1,), 1, 2),
        },
        "own_maps": {"n": 4, "w": (0, 1, 1, 1), "sheet": ((1, 2),)},
    },
    "lists": {
        "list_of": {"n": 4, "w": (0, 1, 2, 1), "sheet": ((1, 2),)},
        "counts_of": {"n": 4, "w": (0, 1, 2, 1), "sheet": ((1, 2),)},
        "is_list": {"n": 4, "k": 1, "thing": (0, 3, 2, 3)},
        "is_counts": {"n": 4, "w": (0, 1, 2, 1), "k": 1, "thing": (((1,), (1, 2)), ((2,), (-3, 4)))},
        "list_of_counts": {"n": 4, "w": (0, 1, 2, 1), "k": 1, "counts": (((1,), (1, 2)), ((2,), (-3, 4)))},
        "sheet_of_counts": {"n": 4, "w": (0, 1, 2, 1), "k": 1, "counts": (((1,), (1, 1)), ((2,), (3, 1)))},
    },
    "readback": {
        "read_back": {"n": 4, "w": (0, 1, 2, 1), "k": 1, "weights": (0, 2, 1, 2)},
        "judge_list": {"n": 4, "w": (0, 1, 2, 1), "k": 1, "weights": (0, 2, 1, 2)},
        "list_holds": {"n": 4, "w": (0, 1, 2, 1), "k": 1, "weights": (0, 1, 2, 3), "thing": ("keeper", 3, (1,))},
    },
    "level": {
        "level_counts": {"n": 4, "w": (0, 1, 2, 1), "k": 1},
        "judge_level": {"n": 4, "w": (0, 1, 2, 1), "k": 1},
        "level_holds": {"n": 4, "w": (0, 2, 1, 2), "k": 1, "thing": ("column", (2,), (-1, 1))},
        "level_length": {"n": 4, "w": (0, 1, 2, 1), "k": 1},
    },
    "along": {
        "judge_along": {"n": 6, "w": (0, 3, 1, 2, 1, 3), "v": (0, 5, 2, 3, 2, 5)},
        "along_holds": {
            "n": 6, "w": (0, 3, 1, 2, 1, 3), "v": (0, 1, 1, 1, 1, 1), "thing": ("counts", (1, -1, -1)),
        },
        "is_along": {"n": 6, "w": (0, 3, 1, 2, 1, 3), "v": (0, 1, 1, 1, 1, 1)},
    },
    "likeness": {
        "least_guise": {"n": 4, "w": (0, 1, 2, 1), "sheet": ((2, 1),)},
        "many_guises": {"n": 4, "w": (0, 1, 2, 1), "sheet": ((2, 1),)},
        "guises": {"n": 4, "w": (0, 1, 2, 1), "sheet": ((2, 1),)},
        "judge_alike": {"n": 4, "w": (0, 1, 2, 1), "one": ((2, 1),), "other": ((1, 1),)},
        "alike_holds": {
            "n": 4, "w": (0, 1, 2, 1), "one": ((2, 1),), "other": ((1, 2),), "thing": ("alike", ((1, 0), (1, 3))),
        },
        "are_alike": {"n": 4, "w": (0, 1, 2, 1), "one": ((2, 1),), "other": ((3, 2),)},
    },
    "counts": {
        "depth_counts": {"n": 4, "row": (2, 1)},
        "count_of": {"n": 4, "sheet": ((2, 1),)},
        "zero_counts": {"n": 4, "sheet": ((2, 1),)},
        "turned_count": {"n": 2, "count": (((0, 1), 1), ((1, 0), 2))},
        "bar_of": {"n": 2, "count": (((0, 1), 1), ((1, 0), 2))},
        "turned_zeros": {"n": 4, "counts": (1, 1, 2)},
    },
    "joined": {
        "beside": {"n": 4, "one": ((2, 1),), "other": ((3,),)},
        "beneath": {"n": 4, "one": ((2, 1),), "other": ((0, 1),)},
        "apart": {"n": 4, "one": ((2, 1),), "other": ((3,),)},
        "cut": {"n": 4, "sheet": ((2, 1),), "position": 0},
        "shortened": {"n": 4, "sheet": ((2, 1),), "position": 0},
    },
    "rests": {
        "made_of": {"a": 2, "b": 3, "one": ((1,),), "other": ((0,),)},
        "part_by": {"n": 6, "a": 2, "sheet": ((3,),)},
        "weighing_of": {"a": 2, "b": 3, "u": (0, 1), "v": (0, 1, 1)},
    },
    "bits": {
        "bits_of": {"row": (2, 1, 0, 3)},
        "row_of_bits": {"thing": (1, 0, 1, 1)},
        "open_pair": {"sheet": ((1, 0, 1), (0, 1, 1))},
        "bit_words": {"sheet": ((2, 1),)},
    },
    "mending": {
        "nearest": {"n": 2, "w": (0, 1), "sheet": ((1, 1, 1),), "row": (1, 0, 1)},
        "lightest_on_shelf": {"n": 2, "w": (0, 1), "sheet": ((1, 1, 1),), "row": (1, 0, 1)},
        "judge_mending": {"n": 2, "w": (0, 1), "sheet": ((1, 1, 1),), "t": 1},
        "mending_holds": {
            "n": 2, "w": (0, 1), "sheet": ((1, 1, 1),), "t": 2, "thing": ("clash", (0, 0, 1), (1, 1, 0)),
        },
        "mended": {"n": 2, "w": (0, 1), "sheet": ((1, 1, 1),), "row": (1, 0, 1), "t": 1},
    },
    "promises": {
        "judge_promise": {"house": HOUSE, "promise": ("least", "a", 3)},
        "against_holds": {"house": HOUSE, "promise": ("least", "a", 3), "thing": ("light", (2,))},
    },
    "texts": {
        "read_house": {"text": "clock 4\nweights 0 1 2 1\nsheet a\nrow 1 2"},
    },
}

# Parameters that any value may be passed as: as `thing`, or with an error that is named for it.
LOOKED_AT = (
    "thing", "hour", "unit", "one", "other", "row", "sheet", "multipliers", "columns", "w", "counts", "images",
    "exchange", "first", "second", "column", "weights", "v", "u", "count", "promise", "text",
)


def functions():
    """All functions of the interface with their right arguments."""
    found = []
    for module, table in INTERFACE.items():
        for name, arguments in table.items():
            found.append((getattr(importlib.import_module("hoursheets." + module), name), arguments))
    return found


def shown(thing):
    """A thing told with kinds, and a house by all that it tells."""
    if isinstance(thing, House):
        return ("House", told(thing), deeds_of(thing))
    if isinstance(thing, (tuple, list)):
        return [type(thing).__name__] + [shown(part) for part in thing]
    if isinstance(thing, dict):
        return ["dict"] + [(repr(key), shown(part)) for key, part in thing.items()]
    return repr(thing)


def outcome(function, arguments):
    """What a call returns or raises, told with kinds."""
    try:
        return shown(function(**arguments))
    except HourError as error:
        return [type(error).__name__, shown(vars(error))]


def with_houses():
    """Values with houses among their parts."""
    house = some_house()
    return [
        house, (house,), [house], {0: house}, (house, house), ((house,),), ((house, 1), (1, house)), (0, house),
        ("sum", house), ("barred", house), ("tells", house, 1), ("loses", (house,)), ("by", house), ("clash", house),
        ("made", house, house), ("unlike", house, house), ("unlike", house, 1, 2), ("counts", house),
        ("level", 1, house),
        ("column", house, (1, 1)), ("keeper", house, house), ("unit", house, house), ("alike", house),
        ("alike", ((0, 1), (house, 1))), ("mends", house), ("clash", (0, 0, 1), house), ("alike", "a", house),
        ("least", "a", house), ("least", house, 1), (house, "a", "b"), ("light", (house,)), (((0, 2), house),),
    ]


def looked_at(arguments):
    """The names of the parameters that any value may be passed as."""
    return [name for name in arguments if name in LOOKED_AT]


def parts(thing):
    """All things that a thing consists of, with the thing itself."""
    found = [thing]
    if isinstance(thing, (tuple, list)):
        for part in thing:
            found.extend(parts(part))
    if isinstance(thing, dict):
        for key, part in thing.items():
            found.extend(parts(key) + parts(part))
    return found


class Conventions(Case):
    def test_parameters_have_the_names_of_the_interface(self):
        for function, arguments in functions():
            parameters = inspect.signature(function).parameters.values()
            self.assertEqual([parameter.name for parameter in parameters], list(arguments), function)
            for parameter in parameters:
                self.assertIs(parameter.kind, inspect.Parameter.POSITIONAL_OR_KEYWORD)
                self.assertIs(parameter.default, inspect.Parameter.empty)

    def test_by_position_by_name_and_mixed(self):
        for function, arguments in functions():
            values = list(arguments.values())
            expected = shown(function(*values))
            self.assertEqual(shown(function(**arguments)), expected)
            backwards = {name: arguments[name] for name in reversed(list(arguments))}
            self.assertEqual(shown(function(**backwards)), expected)
            rest = {name: arguments[name] for name in list(arguments)[1:]}
            self.assertEqual(shown(function(values[0], **rest)), expected)

    def test_functions_stand_in_their_files(self):
        for module, table in INTERFACE.items():
            for name in table:
                function = getattr(importlib.import_module("hoursheets." + module), name)
                self.assertEqual((function.__module__, function.__name__), ("hoursheets." + module, name))

    def test_results_are_tuples_integers_strings_bools_and_none(self):
        for function, arguments in functions():
            for part in parts(function(**arguments)):
                self.assertIn(type(part), (tuple, int, str, bool, type(None), House), function)

    def test_whether_is_answered_by_a_bool(self):
        for function, arguments in functions():
            name = function.__name__
            if name.startswith(("is_", "are_", "can_", "has_")) or name.endswith("_holds") or name == "same_words":
                self.assertIs(type(function(**arguments)), bool, name)

    def test_the_same_call_answers_alike(self):
        for function, arguments in functions():
            for name in arguments:
                for thing in odd_values() if name in LOOKED_AT else [arguments[name]]:
                    call = {**arguments, name: thing}
                    self.assertEqual(outcome(function, call), outcome(function, call))

    def test_nothing_that_is_passed_is_changed(self):
        for function, arguments in functions():
            for name in arguments:
                for thing in odd_values() if name in LOOKED_AT else [arguments[name]]:
                    call = {**arguments, name: thing}
                    kept = copy.deepcopy(call)
                    outcome(function, call)
                    self.assertEqual(shown(call), shown(kept))

    def test_any_value_raises_no_other_error(self):
        for function, arguments in functions():
            asks = function.__name__.startswith(("is_", "are_", "can_", "has_")) or function.__name__.endswith("_holds")
            for name in arguments:
                for thing in odd_values() if name in LOOKED_AT else []:
                    call = {**arguments, name: thing}
                    if asks and name == "thing":
                        self.assertIs(type(function(**call)), bool)
                    else:
                        outcome(function, call)

    def test_houses_among_the_values(self):
        for function, arguments in functions():
            asks = function.__name__.startswith("is_") or function.__name__.endswith("_holds")
            for name in looked_at(arguments):
                for thing in with_houses():
                    call = {**arguments, name: thing}
                    kept = shown(call)
                    if asks and name == "thing":
                        self.assertIs(function(**call), False)
                    else:
                        self.assertIn(outcome(function, call)[0], vars(errors), function)
                    self.assertEqual(shown(call), kept)

    def test_comparisons_raise_nothing(self):
        things = odd_values() + with_houses()
        for one in things:
            for other in things:
                self.assertIs(type(one == other), bool)
                self.assertEqual(one != other, not one == other)


class Methods(Case):
    def test_parameters_have_the_names_of_the_interface(self):
        self.assertEqual(list(inspect.signature(House).parameters), ["n", "w"])
        for name, arguments in {**TELLING, **DEEDS}.items():
            self.assertIn(name, vars(House))
            parameters = list(inspect.signature(getattr(House, name)).parameters.values())[1:]
            self.assertEqual([parameter.name for parameter in parameters], list(arguments), name)
            for parameter in parameters:
                self.assertIs(parameter.kind, inspect.Parameter.POSITIONAL_OR_KEYWORD)
                self.assertIs(parameter.default, inspect.Parameter.empty)
        self.assertEqual((House.__module__, House.__bases__), ("hoursheets.houses", (object,)))

    def house_for(self, name):
        """A house in which a deed can be done."""
        house = some_house()
        if name == "exchange":
            house.redo()
            house.redo()
        return house

    def test_by_position_and_by_name(self):
        for name, arguments in {**TELLING, **DEEDS}.items():
            one, other, third = (self.house_for(name) for _ in range(3))
            found = shown(getattr(one, name)(*arguments.values()))
            self.assertEqual(shown(getattr(other, name)(**arguments)), found)
            backwards = {word: arguments[word] for word in reversed(list(arguments))}
            self.assertEqual(shown(getattr(third, name)(**backwards)), found)
            self.assertEqual([shown(other), shown(third)], [shown(one)] * 2)
            if name in DEEDS:
                self.assertEqual(found, "None")

    def test_only_deeds_undo_and_redo_change_a_house(self):
        for name, arguments in TELLING.items():
            house = some_house()
            before = shown(house)
            getattr(house, name)(**arguments)
            self.assertEqual(shown(house), before)
        for name, arguments in DEEDS.items():
            house = self.house_for(name)
            before = shown(house)
            getattr(house, name)(**arguments)
            self.assertNotEqual(shown(house), before)
        house = some_house()
        before = shown(house)
        for function, arguments in functions():
            for name in looked_at(arguments):
                outcome(function, {**arguments, name: house})
            if "house" in arguments:
                outcome(function, {**arguments, "house": house})
        self.assertEqual(shown(house), before)

    def test_any_value_raises_no_other_error_and_changes_nothing(self):
        for name, arguments in {**TELLING, **DEEDS}.items():
            for word in arguments:
                for thing in odd_values() + with_houses():
                    house = self.house_for(name)
                    before = shown(house)
                    call = {**arguments, word: thing}
                    kept = shown(call)
                    found = outcome(getattr(house, name), call)
                    if found[0] in vars(errors):
                        self.assertEqual(shown(house), before)
                    elif name in DEEDS:
                        self.assertEqual(found, "None")
                    else:
                        self.assertTrue(found in ("True", "False") if name == "is_same" else thing == "a")
                    self.assertEqual(shown(call), kept)

    def test_the_same_call_answers_alike(self):
        for name, arguments in {**TELLING, **DEEDS}.items():
            for thing in odd_values() + list(arguments.values()):
                for word in arguments:
                    one, other = self.house_for(name), self.house_for(name)
                    call = {**arguments, word: thing}
                    self.assertEqual(outcome(getattr(one, name), call), outcome(getattr(other, name), call))
                    self.assertEqual(shown(one), shown(other))
