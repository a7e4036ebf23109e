"""Houses [14.1]: named sheets and promises about them, with deeds that can be taken back [14.4]."""

from hoursheets.clocks import is_unit, need_hour
from hoursheets.errors import (
    BadExchange, BadHour, BadName, BadPromise, BadRow, Here, NoName, NothingToRedo, NothingToUndo,
)
from hoursheets.exchanges import is_exchange, sheet_led_by
from hoursheets.judging import is_name, is_name_of, is_promise, need_kept
from hoursheets.rows import is_place, multiple, need_sheet, plus_multiple
from hoursheets.weighings import need_weighing


def need_place(sheet, thing):
    """Raises BadRow for any value that is no position of a row of a sheet."""
    if not is_place(sheet, thing):
        raise BadRow(thing)


def with_row(sheet, at, row):
    """A sheet with another row at a position."""
    return sheet[:at] + (row,) + sheet[at + 1:]


def line_of(words):
    """The line of some words, which are strings and integers."""
    return " ".join([str(word) for word in words])


class House:
    """Named sheets of a clock with a weighing, and promises about them, which hold at all times."""

    def __init__(self, n, w):
        need_weighing(n, w)
        self.n = n
        # A state is never changed, so deeds are taken back by taking an earlier one.
        self._state = (w, (), ())
        self._earlier = []
        self._later = []

    def weighing(self):
        """The weighing of the house."""
        return self._state[0]

    def names(self):
        """The ascending tuple of pairs (name, sheet)."""
        return self._state[1]

    def promises(self):
        """The tuple of the promises, in their order."""
        return self._state[2]

    def sheet_of(self, name):
        """The sheet with a name."""
        sheets = dict(self.names())
        if not is_name_of(sheets, name):
            raise NoName(name)
        return sheets[name]

    def _become(self, w, sheets, promises):
        """Does a deed: gives the house a weighing, sheets by their names, and promises."""
        self._earlier.append(self._state)
        self._later = []
        self._state = (w, tuple(sorted(sheets.items())), promises)

    def _give(self, name, sheet):
        """Gives a name another sheet, if all promises with it go on to hold."""
        sheets = dict(self.names())
        sheets[name] = sheet
        need_kept(self.n, self.weighing(), sheets, [promise for promise in self.promises() if name in promise[1:]])
        self._become(self.weighing(), sheets, self.promises())

    def put(self, name, sheet):
        """Adds a sheet with a new name."""
        sheets = dict(self.names())
        if not is_name(name):
            raise BadName(name)
        if name in sheets:
            raise Here(name)
        need_sheet(self.n, sheet)
        sheets[name] = sheet
        self._become(self.weighing(), sheets, self.promises())

    def leave(self, name):
        """Removes a name, and all promises with it."""
        self.sheet_of(name)
        sheets = dict(self.names())
        del sheets[name]
        others = [promise for promise in self.promises() if name not in promise[1:]]
        self._become(self.weighing(), sheets, tuple(others))

    def exchange(self, name, exchange):
        """Leads all rows of a sheet by an exchange."""
        sheet = self.sheet_of(name)
        if not is_exchange(self.n, self.weighing(), exchange) or len(exchange[0]) != len(sheet[0]):
            raise BadExchange(exchange)
        self._give(name, sheet_led_by(self.n, exchange, sheet))

    def add(self, name, one, other, number):
        """Adds an hour times the row other of a sheet to its row one."""
        sheet = self.sheet_of(name)
        need_place(sheet, one)
        need_place(sheet, other)
        if one == other:
            raise BadRow(other)
        need_hour(self.n, number)
        self._give(name, with_row(sheet, one, plus_multiple(self.n, sheet[one], number, sheet[other])))

    def times(self, name, one, unit):
        """Multiplies the row one of a sheet by a unit."""
        sheet = self.sheet_of(name)
        need_place(sheet, one)
        if not is_unit(self.n, unit):
            raise BadHour(unit)
        self._give(name, with_row(sheet, one, multiple(self.n, unit, sheet[one])))

    def weigh(self, w):
        """Gives the house another weighing, if all promises go on to hold."""
        need_weighing(self.n, w)
        sheets = dict(self.names())
        need_kept(self.n, w, sheets, self.promises())
        self._become(w, sheets, self.promises())

    def make(self, thing):
        """Adds a promise that holds behind all others."""
        sheets = dict(self.names())
        if not is_promise(sheets, thing) or thing in self.promises():
            raise BadPromise(thing)
        need_kept(self.n, self.weighing(), sheets, [thing])
        self._become(self.weighing(), sheets, self.promises() + (thing,))

    def drop(self, thing):
        """Removes a promise."""
        sheets = dict(self.names())
        # A bool is no integer, though it is equal to one: only promises are looked for.
        if not is_promise(sheets, thing) or thing not in self.promises():
            raise BadPromise(thing)
        others = [promise for promise in self.promises() if promise != thing]
        self._become(self.weighing(), sheets, tuple(others))

    def undo(self):
        """Takes back the last deed that has not been taken back."""
        if not self._earlier:
            raise NothingToUndo()
        self._later.append(self._state)
        self._state = self._earlier.pop()

    def redo(self):
        """Does again the deed that was taken back last and not yet done again."""
        if not self._later:
            raise NothingToRedo()
        self._earlier.append(self._state)
        self._state = self._later.pop()

    def copied(self):
        """Another house with the same state, and the same deeds to undo and to redo."""
        other = House(self.n, self.weighing())
        other._state = self._state
        other._earlier = list(self._earlier)
        other._later = list(self._later)
        return other

    def text(self):
        """The text of the house."""
        lines = [line_of(("clock", self.n)), line_of(("weights",) + self.weighing())]
        for name, sheet in self.names():
            lines.append(line_of(("sheet", name)))
            lines.extend([line_of(("row",) + row) for row in sheet])
        lines.extend([line_of(("promise",) + promise) for promise in self.promises()])
        return "\n".join(lines)

    def is_same(self, thing):
        """Whether any value is a house with the same text."""
        return isinstance(thing, House) and thing.text() == self.text()


def house_with(n, w, names, promises):
    """A house with named sheets and promises that are known to be right, and with no deeds to undo or redo."""
    house = House(n, w)
    house._state = (w, names, promises)
    return house
