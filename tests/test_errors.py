"""Tests of the errors: their classes, base classes and attributes."""

from hoursheets import errors
from tests.helper import Case, odd_values

PARAMETERS = {
    "BadHour": ("thing",),
    "BadRow": ("thing",),
    "BadSheet": ("thing",),
    "OtherLengths": (),
    "BadWeighing": ("thing",),
    "BadCounts": ("thing",),
    "BadExchange": ("thing",),
    "BadList": ("thing",),
    "Clash": ("multipliers",),
    "Loses": ("certificate",),
    "TooLong": (),
    "BadName": ("name",),
    "NoName": ("name",),
    "Here": ("name",),
    "BadPromise": ("thing",),
    "Broken": ("promise", "certificate"),
    "BadText": ("line",),
    "NothingToUndo": (),
    "NothingToRedo": (),
}


class Errors(Case):
    def test_base_classes(self):
        self.assertEqual(errors.HourError.__bases__, (Exception,))
        for name in PARAMETERS:
            self.assertEqual(getattr(errors, name).__bases__, (errors.HourError,), name)

    def test_there_are_no_others(self):
        found = {name for name, thing in vars(errors).items() if isinstance(thing, type)}
        self.assertEqual(found, set(PARAMETERS) | {"HourError"})

    def test_attributes_by_position_and_by_name(self):
        for name, parameters in PARAMETERS.items():
            kind = getattr(errors, name)
            values = [("value", parameter) for parameter in parameters]
            for error in (kind(*values), kind(**dict(zip(parameters, values)))):
                self.assertEqual(vars(error), dict(zip(parameters, values)), name)

    def test_attributes_are_any_values(self):
        for name, parameters in PARAMETERS.items():
            for thing in odd_values():
                error = getattr(errors, name)(*[thing for _ in parameters])
                for parameter in parameters:
                    self.assertIs(getattr(error, parameter), thing)

    def test_missing_and_unknown_parameters(self):
        for name, parameters in PARAMETERS.items():
            kind = getattr(errors, name)
            with self.assertRaises(TypeError):
                kind(*[0 for _ in parameters], unknown=1)
            if parameters:
                with self.assertRaises(TypeError):
                    kind()

    def test_each_is_raised_and_caught_by_name(self):
        for name, parameters in PARAMETERS.items():
            kind = getattr(errors, name)
            with self.assertRaises(kind) as held:
                raise kind(*[7 for _ in parameters])
            self.assertIs(type(held.exception), kind)
