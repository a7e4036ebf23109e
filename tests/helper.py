"""What the tests share: values of all kinds, plain goings-through, and the running of examples."""

import itertools
import random
import unittest

from hoursheets import errors


def nested(depth):
    """A tuple nested so deep."""
    thing = 1
    for _ in range(depth):
        thing = (thing,)
    return thing


def odd_values():
    """Values that are no clock, no hour, no row, no sheet, no weighing and no certificate."""
    return [
        None, True, False, -1, 31, -(10 ** 39), 10 ** 39, "", "a", "sum", "0", "12" * 1000, "\n", [], [0], [1, 2],
        [[0]], [(0, 1)], {}, {0: 1}, {"a": [1]}, (), ((),), ((), ()), (None,), (True,), (False, False), ("0",), ("",),
        ([],), ([0],), ({},), (-1,), (31,), (10 ** 39,), (0, True), (1, False), (0, None), (0, "1"), (0, [1]),
        (0, (1,)), ((0,), 1), ((0, True),), ((True, 0),), (("0",),), ((0, None),), ([0, 1],), ((0, 1), [0, 1]),
        ((0, 1), (0,)), ((0,), (0, 1)), ((0, 1), ()), ((0, 1), None), ((0, 1), (0, -1)), ((0, 1), (0, 31)),
        ((0, 1), (0, False)), (((0,),),), nested(12), ["sum", (1,)], ("sum",), ("sum", (1,), 0), ("by", (1,)),
        ("barred",), ("barred", (1, 1), (1, 1)), ("SUM", (1,)), ("sum", [1]), ("sum", None),
        ("barred", None), ("barred", [1, 1]), ("barred", "11"), ("barred", nested(10)), {"sum": (1,)},
        (0,) * 21, ((0,),) * 21, ((0,) * 21,), tuple((0,) * (1 + k % 2) for k in range(20)), (0,) * 3000,
    ]


LONGEST = tuple(k % 4 for k in range(20))


def no_rows():
    """Values that are no row of the clock 4."""
    return odd_values() + [(4,), (0, 4), (0, -1), (3,) * 21, [0, 1], "01", ((0, 1),), (0, 1, 2, True)]


def no_sheets():
    """Values that are no sheet of the clock 4."""
    wide = tuple((1,) * 19 + (k,) for k in range(5))
    return odd_values() + [(0, 1), ((4,),), ((0, 1), (4, 0)), [(0, 1)], wide, (LONGEST, LONGEST[:-1]), (LONGEST,) * 21]


def rows_of(n, length):
    """All rows of a length, ascending."""
    return list(itertools.product(range(n), repeat=length))


def sheets_of(n, many, length):
    """All sheets of so many rows of a length."""
    return list(itertools.product(rows_of(n, length), repeat=many))


def plain_word(n, sheet, multipliers):
    """The word of multipliers, added up column by column."""
    return tuple(sum(x * hour for x, hour in zip(multipliers, column)) % n for column in zip(*sheet))


def plain_product(n, one, other):
    return sum(a * b for a, b in zip(one, other)) % n


def plain_words(n, sheet):
    """The set of all words, by going through all multipliers."""
    return {plain_word(n, sheet, x) for x in rows_of(n, len(sheet))}


def plain_annulled(n, sheet):
    """The set of all rows that a sheet annuls, by going through all rows."""
    return {row for row in rows_of(n, len(sheet[0])) if all(plain_product(n, row, own) == 0 for own in sheet)}


def chance(seed):
    """The same numbers in each run."""
    return random.Random(seed)


def chance_sheet(source, n, many, length):
    """A sheet in which depths other than 1 are as usual as units."""
    factors = [d for d in range(1, n + 1) if n % d == 0]

    def hour():
        return source.choice(factors) * source.randrange(n) % n

    return tuple(tuple(hour() for _ in range(length)) for _ in range(many))


def small_sheets(seed, many):
    """Pairs of a clock and a sheet with at most 800 rows of its length and 800 multipliers."""
    source = chance(seed)
    found = []
    while len(found) < many:
        n = source.choice((2, 3, 4, 5, 6, 7, 8, 9, 10, 12, 16, 18, 20, 24, 27, 28, 30))
        rows, length = source.randrange(1, 5), source.randrange(1, 7)
        if n ** length <= 800 and n ** rows <= 800:
            found.append((n, chance_sheet(source, n, rows, length)))
    return found


def large_sheets(seed, many):
    """Pairs of a clock and a sheet with up to 6 rows and up to 20 columns."""
    source = chance(seed)
    return [
        (n, chance_sheet(source, n, source.randrange(1, 7), source.randrange(15, 21)))
        for n in source.choices(range(2, 31), k=many)
    ]


class Case(unittest.TestCase):
    """A test case that looks at kinds, too: 1 is not True here, and a list is no tuple."""

    def same(self, found, expected):
        self.assertEqual(repr(found), repr(expected))

    def raises(self, expected, function, *args, **named):
        """Whether a call raises an error of just this class, with just these attributes."""
        with self.assertRaises(errors.HourError) as held:
            function(*args, **named)
        self.assertIs(type(held.exception), type(expected))
        self.assertEqual(repr(vars(held.exception)), repr(vars(expected)))

    def refuses(self, error, function, args, name, wrong):
        """Whether a function raises an error with the value, for each wrong value of a parameter."""
        for thing in wrong:
            self.raises(error(thing), function, **{**args, name: thing})

    def run_examples(self, text):
        """Runs lines as the document prints them, and looks at what is printed below each one."""
        space = {}
        lines = text.strip().split("\n")
        for at, line in enumerate(lines):
            if not line.startswith(">>> "):
                continue
            answer = lines[at + 1] if at + 1 < len(lines) else ">>> "
            code = line[4:]
            if answer.startswith(">>> "):
                exec(code, space)
            elif answer.startswith("raises "):
                expected = eval(answer[7:], dict(vars(errors)))
                self.raises(expected, eval, code, space)
            else:
                self.assertEqual(repr(eval(code, space)), answer, code)
