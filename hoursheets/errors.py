"""The errors of hoursheets: one class for each kind of failure."""


class HourError(Exception):
    """The base class of all errors of hoursheets."""


class BadHour(HourError):
    """A value that is no hour, or no unit where a unit is asked for."""

    def __init__(self, thing):
        self.thing = thing


class BadRow(HourError):
    """A value that is no row, no multipliers, no column or no position of a row."""

    def __init__(self, thing):
        self.thing = thing


class BadSheet(HourError):
    """A value that is no sheet, or no sheet of the form that is asked for."""

    def __init__(self, thing):
        self.thing = thing


class OtherLengths(HourError):
    """Two things that should have one length have unlike lengths."""


class BadWeighing(HourError):
    """A value that is no weighing of the clock."""

    def __init__(self, thing):
        self.thing = thing


class BadCounts(HourError):
    """A value that is no counts, or none of the form that is asked for."""

    def __init__(self, thing):
        self.thing = thing


class BadExchange(HourError):
    """A value that is no exchange for the weighing."""

    def __init__(self, thing):
        self.thing = thing


class BadList(HourError):
    """A value that is no list of weights."""

    def __init__(self, thing):
        self.thing = thing


class Clash(HourError):
    """A list that is unlike at multipliers and at some keeper times them."""

    def __init__(self, multipliers):
        self.multipliers = multipliers


class Loses(HourError):
    """A weighing that loses, where one that tells is asked for."""

    def __init__(self, certificate):
        self.certificate = certificate


class TooLong(HourError):
    """A row would have more hours than rows can have."""


class BadName(HourError):
    """A value that cannot be a name in a house."""

    def __init__(self, name):
        self.name = name


class NoName(HourError):
    """A value that is no name of the house."""

    def __init__(self, name):
        self.name = name


class Here(HourError):
    """A name that the house has already."""

    def __init__(self, name):
        self.name = name


class BadPromise(HourError):
    """A value that is no promise, or not one that can be made or dropped here."""

    def __init__(self, thing):
        self.thing = thing


class Broken(HourError):
    """A promise that would not hold, and a certificate against it."""

    def __init__(self, promise, certificate):
        self.promise = promise
        self.certificate = certificate


class BadText(HourError):
    """A value that is not the text of a house, and the line that is wrong."""

    def __init__(self, line):
        self.line = line


class NothingToUndo(HourError):
    """There is no deed to take back."""


class NothingToRedo(HourError):
    """There is no deed to do again."""
