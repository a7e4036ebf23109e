"""What the tests share: values of all kinds, plain goings-through, and the running of examples."""

import functools
import itertools
import random
import unittest
from fractions import Fraction
from math import gcd

from hoursheets import errors
from hoursheets.houses import House
from hoursheets.reduced import reduced
from hoursheets.weighings import level_weighing


def nested(depth):
    """A tuple nested so deep."""
    thing = 1
    for _ in range(depth):
        thing = (thing,)
    return thing


def odd_values():
    """Values that are no clock, no hour, no row, no sheet, no weighing and no certificate."""
    return [
        None, True, False, -1, 31, -(10 ** 39), 10 ** 39, "", "a", "sum", "0", "12" * 1000, "\n", [], [0], [1, 2],
        [[0]], [(0, 1)], {}, {0: 1}, {"a": [1]}, (), ((),), ((), ()), (None,), (True,), (False, False), ("0",), ("",),
        ([],), ([0],), ({},), (-1,), (31,), (10 ** 39,), (0, True), (1, False), (0, None), (0, "1"), (0, [1]),
        (0, (1,)), ((0,), 1), ((0, True),), ((True, 0),), (("0",),), ((0, None),), ([0, 1],), ((0, 1), [0, 1]),
        ((0, 1), (0,)), ((0,), (0, 1)), ((0, 1), ()), ((0, 1), None), ((0, 1), (0, -1)), ((0, 1), (0, 31)),
        ((0, 1), (0, False)), (((0,),),), nested(12), ["sum", (1,)], ("sum",), ("sum", (1,), 0), ("by", (1,)),
        ("barred",), ("barred", (1, 1), (1, 1)), ("SUM", (1,)), ("sum", [1]), ("sum", None),
        ("barred", None), ("barred", [1, 1]), ("barred", "11"), ("barred", nested(10)), {"sum": (1,)},
        (0,) * 21, ((0,),) * 21, ((0,) * 21,), tuple((0,) * (1 + k % 2) for k in range(20)), (0,) * 3000,
    ]


CLOCKS = range(2, 31)
LONGEST = tuple(k % 4 for k in range(20))


def no_rows():
    """Values that are no row of the clock 4."""
    return odd_values() + [(4,), (0, 4), (0, -1), (3,) * 21, [0, 1], "01", ((0, 1),), (0, 1, 2, True)]


def no_sheets():
    """Values that are no sheet of the clock 4."""
    wide = tuple((1,) * 19 + (k,) for k in range(5))
    return odd_values() + [(0, 1), ((4,),), ((0, 1), (4, 0)), [(0, 1)], wide, (LONGEST, LONGEST[:-1]), (LONGEST,) * 21]


def rows_of(n, length):
    """All rows of a length, ascending."""
    return list(itertools.product(range(n), repeat=length))


def sheets_of(n, many, length):
    """All sheets of so many rows of a length."""
    return list(itertools.product(rows_of(n, length), repeat=many))


def plain_word(n, sheet, multipliers):
    """The word of multipliers, added up column by column."""
    return tuple(sum(x * hour for x, hour in zip(multipliers, column)) % n for column in zip(*sheet))


def plain_product(n, one, other):
    return sum(a * b for a, b in zip(one, other)) % n


def plain_words(n, sheet):
    """The set of all words, by going through all multipliers."""
    return {plain_word(n, sheet, x) for x in rows_of(n, len(sheet))}


def plain_annulled(n, sheet):
    """The set of all rows that a sheet annuls, by going through all rows."""
    return {row for row in rows_of(n, len(sheet[0])) if all(plain_product(n, row, own) == 0 for own in sheet)}


def chance(seed):
    """The same numbers in each run."""
    return random.Random(seed)


def chance_sheet(source, n, many, length):
    """A sheet in which depths other than 1 are as usual as units."""
    factors = [d for d in range(1, n + 1) if n % d == 0]

    def hour():
        return source.choice(factors) * source.randrange(n) % n

    return tuple(tuple(hour() for _ in range(length)) for _ in range(many))


def small_sheets(seed, many):
    """Pairs of a clock and a sheet with at most 800 rows of its length and 800 multipliers."""
    source = chance(seed)
    found = []
    while len(found) < many:
        n = source.choice((2, 3, 4, 5, 6, 7, 8, 9, 10, 12, 16, 18, 20, 24, 27, 28, 30))
        rows, length = source.randrange(1, 5), source.randrange(1, 7)
        if n ** length <= 800 and n ** rows <= 800:
            found.append((n, chance_sheet(source, n, rows, length)))
    return found


def large_sheets(seed, many):
    """Pairs of a clock and a sheet with up to 6 rows and up to 20 columns."""
    source = chance(seed)
    return [
        (n, chance_sheet(source, n, source.randrange(1, 7), source.randrange(15, 21)))
        for n in source.choices(range(2, 31), k=many)
    ]


def plain_units(n):
    return [u for u in range(n) if gcd(u, n) == 1]


def plain_divisors(n):
    return [d for d in range(1, n + 1) if n % d == 0]


def plain_sign(m):
    return 1 if m == 1 else -sum(plain_sign(d) for d in plain_divisors(m)[:-1])


def no_weighings():
    """Values that are no weighing of the clock 4."""
    good = (0, 1, 2, 1)
    things = odd_values() + [(0, 1), (0, 1, 1), (0, 1, 1, 1, 1), list(good), "0121", ((0, 1, 2, 1),), {0: good}]
    for thing in (True, False, None, -1, 10 ** 6 + 1, 10 ** 39, "1", (1,), [1], 0):
        things.extend(good[:at] + (thing,) + good[at + 1:] for at in range(1, 4))
    return things + [(thing,) + good[1:] for thing in (1, -1, False, None, "0", (), (0,), 10 ** 6)]


def weighings_of(n, seed):
    """Weighings of a clock, with few and with many keepers."""
    source = chance(seed + n)
    rounds = tuple(min(a, n - a) for a in range(n))
    found = [(0,) + (1,) * (n - 1), rounds, tuple(a * a for a in rounds), level_weighing(n)]
    found.append((0,) + tuple(source.randrange(1, 10 ** 6 + 1) for _ in range(n - 1)))
    found.append((0,) + tuple(source.randrange(1, 3) for _ in range(n - 1)))
    found.append(tuple(gcd(a, n) % n for a in range(n)))
    for u in plain_units(n):
        w = [0] * n
        for a in range(1, n):
            if w[a] == 0:
                # The hours that powers of u lead to one another weigh alike.
                weight, b = source.randrange(1, 4), a
                while w[b] == 0:
                    w[b] = weight
                    b = u * b % n
        found.append(tuple(w))
    return found


def together(a, b, u, v):
    """The weighing of the clock a b that gives an hour what two weighings give to its remainders; it loses."""
    return tuple(u[x % a] + v[x % b] for x in range(a * b))


def losers():
    """Pairs of a clock and a weighing that loses."""
    found = [
        (5, (0, 1, 1, 2, 2)), (5, (0, 2, 4, 1, 3)), (6, (0, 3, 1, 2, 1, 3)), (6, (0, 4, 2, 2, 2, 1)),
        (6, (0, 3, 3, 1, 1, 3)), (7, (0, 4, 2, 4, 1, 2, 1)), (7, (0, 1, 2, 1, 3, 2, 3)), (8, (0, 4, 2, 1, 3, 1, 3, 4)),
        (8, (0, 3, 4, 2, 2, 4, 4, 2)), (9, (0, 3, 2, 1, 2, 4, 1, 4, 3)), (10, (0, 1, 1, 4, 2, 1, 1, 3, 2, 2)),
        (10, (0, 4, 3, 4, 2, 1, 3, 4, 1, 1)), (12, (0, 1, 4, 2, 1, 2, 2, 1, 2, 3, 3, 2)),
    ]
    for a, b in (
        (2, 3), (2, 5), (3, 4), (2, 7), (3, 5), (2, 9), (4, 5), (3, 7), (2, 11), (3, 8), (2, 13), (4, 7), (5, 6),
    ):
        found.append((a * b, together(a, b, level_weighing(a), level_weighing(b))))
        found.append((a * b, together(a, b, (0,) + (500000,) * (a - 1), (0,) + tuple(range(1, b)))))
    return found


def most_hours(counts):
    """How many hours the longer one of the two rows for counts has."""
    return max(sum(count for count in counts if count > 0), -sum(count for count in counts if count < 0))


def plain_keepers(n, w):
    return [u for u in plain_units(n) if all(w[u * a % n] == w[a] for a in range(n))]


def plain_least_hours(n, w):
    """The least hours of the classes."""
    return [a for a in range(1, n) if all(u * a % n >= a for u in plain_keepers(n, w))]


def plain_table(n, w):
    least = plain_least_hours(n, w)
    return [[w[a * b % n] for b in least] for a in least]


# Determinants of tables here are divided by this prime number only if they are 0, but for a rare chance.
PRIME = 2 ** 127 - 1


def plain_rank(table):
    """The rank of a table, worked out with remainders by a large prime number."""
    rows = [[item % PRIME for item in row] for row in table]
    rank = 0
    for at in range(len(table[0])):
        fitting = [row for row in rows if row[at] != 0]
        if fitting:
            lead = fitting[0]
            rows.remove(lead)
            shares = [row[at] * pow(lead[at], -1, PRIME) for row in rows]
            rows = [[(item - share * own) % PRIME for item, own in zip(row, lead)] for row, share in zip(rows, shares)]
            rank += 1
    return rank


def plain_weight(w, row):
    return sum(w[hour] for hour in row)


def plain_exchanges(n, w, length):
    """All exchanges for a weighing and a length."""
    factors = list(itertools.product(plain_keepers(n, w), repeat=length))
    return [(places, own) for places in itertools.permutations(range(length)) for own in factors]


def plain_led(n, exchange, row):
    places, factors = exchange
    return tuple(factors[j] * row[places[j]] % n for j in range(len(row)))


# All clocks and numbers of rows with at most 130 multipliers.
SHAPES = [(n, k) for n in CLOCKS for k in range(1, 7) if n ** k <= 130]
SMALL_SHAPES = [(n, k) for n, k in SHAPES if n ** k <= 36]


def plain_class(n, w, column):
    return min(tuple(u * hour % n for hour in column) for u in plain_keepers(n, w))


def plain_columns(n, w, k):
    """The least columns of all classes but that of the column of zeros."""
    kept = plain_keepers(n, w)
    return [
        column for column in rows_of(n, k)
        if any(column) and min(tuple(u * hour % n for hour in column) for u in kept) == column
    ]


def plain_list(n, w, k, counts):
    """The items that the list of counts has, as fractions."""
    return [
        sum((Fraction(*number) * w[plain_product(n, x, column)] for column, number in counts), Fraction(0))
        for x in rows_of(n, k)
    ]


def in_pairs(counts):
    """Counts with their numbers as pairs (top, bottom), without those of 0."""
    return tuple((column, (number.numerator, number.denominator)) for column, number in counts if number != 0)


def plain_read_back(n, w, k, weights):
    """The counts that have a list that is alike on keepers, by solving all equations at once."""
    columns = plain_columns(n, w, k)
    items = dict(zip(rows_of(n, k), weights))
    rows = [[Fraction(w[plain_product(n, x, column)]) for column in columns] + [Fraction(items[x])] for x in columns]
    for at in range(len(columns)):
        lead = next(j for j in range(at, len(rows)) if rows[j][at] != 0)
        rows[at], rows[lead] = rows[lead], rows[at]
        rows[at] = [item / rows[at][at] for item in rows[at]]
        for j, row in enumerate(rows):
            if j != at and row[at] != 0:
                rows[j] = [item - row[at] * own for item, own in zip(row, rows[at])]
    return in_pairs((column, row[-1]) for column, row in zip(columns, rows))


@functools.cache
def telling_weighings(n, seed):
    """Some weighings of a clock that tell."""
    return [w for w in weighings_of(n, seed) if plain_rank(plain_table(n, w)) == len(plain_table(n, w))]


def alike_list(source, n, w, k, most):
    """A list of integers that is alike on keepers."""
    items = {(0,) * k: 0}
    return tuple(items.setdefault(plain_class(n, w, x), source.randrange(-most, most + 1)) for x in rows_of(n, k))


@functools.cache
def plain_guises(n, w, sheet):
    """The sets of words of all sheets that come of a sheet by an exchange."""
    words = plain_words(n, sheet)
    exchanges = plain_exchanges(n, w, len(sheet[0]))
    return {frozenset(plain_led(n, exchange, word) for word in words) for exchange in exchanges}


def plain_images(n, one, other):
    """For each word of a sheet the set of its images by a map."""
    found = {}
    for x in rows_of(n, len(one)):
        found.setdefault(plain_word(n, one, x), set()).add(plain_word(n, other, x))
    return found


def plain_holds(n, w, sheets, promise):
    """Whether a promise about named sheets, which are a dict, holds, by its words in [14.2]."""
    kind, one = promise[0], sheets[promise[1]]
    if kind == "least":
        return all(plain_weight(w, word) >= promise[2] for word in plain_words(n, one) if any(word))
    other = sheets[promise[2]]
    if kind == "kept":
        if len(one) != len(other):
            return False
        images = plain_images(n, one, other)
        return all(
            len(having) == 1 and plain_weight(w, word) == plain_weight(w, min(having))
            for word, having in images.items()
        )
    if len(one[0]) != len(other[0]):
        return False
    if kind == "within":
        return plain_words(n, one) <= plain_words(n, other)
    return frozenset(plain_words(n, other)) in plain_guises(n, w, one)


def plain_least_guise(n, w, sheet):
    """The least guise, by reducing what each exchange makes of a sheet."""
    exchanges = plain_exchanges(n, w, len(sheet[0]))
    return min(reduced(n, tuple(plain_led(n, exchange, row) for row in sheet)) for exchange in exchanges)


def plain_against(n, w, sheets, promise, thing):
    """Whether a certificate of a right form is right against a promise, by its words in [14.3]."""
    kind, one, mark = promise[0], sheets[promise[1]], thing[0]
    if kind == "least":
        if mark != "light" or len(thing[1]) != len(one) or not all(0 <= x < n for x in thing[1]):
            return False
        word = plain_word(n, one, thing[1])
        return any(word) and plain_weight(w, word) < promise[2]
    other = sheets[promise[2]]
    if kind == "kept":
        if len(one) != len(other):
            return thing == ("rows", len(one), len(other))
        if mark not in ("clash", "word") or len(thing[1]) != len(one) or not all(0 <= x < n for x in thing[1]):
            return False
        word, image = plain_word(n, one, thing[1]), plain_word(n, other, thing[1])
        if mark == "clash":
            return not any(word) and any(image)
        is_sound = all(len(having) == 1 for having in plain_images(n, one, other).values())
        return is_sound and plain_weight(w, word) != plain_weight(w, image)
    if len(one[0]) != len(other[0]):
        return thing == ("lengths", len(one[0]), len(other[0]))
    if kind == "within":
        if mark != "barred" or not 0 <= thing[1] < len(one) or len(thing[2]) != len(other[0]):
            return False
        if not all(0 <= hour < n for hour in thing[2]):
            return False
        bars = all(plain_product(n, row, thing[2]) == 0 for row in other)
        return bars and plain_product(n, one[thing[1]], thing[2]) != 0
    least = tuple(plain_least_guise(n, w, sheet) for sheet in (one, other))
    return mark == "unlike" and thing[1:] == least and least[0] != least[1]


def promises_of(names, weights=()):
    """All promises with some names, those of the kind "least" with some weights."""
    pairs = list(itertools.permutations(names, 2))
    found = [("alike", one, other) for one, other in pairs if one < other]
    found += [(kind, one, other) for kind in ("kept", "within") for one, other in pairs]
    return found + [("least", name, weight) for name in names for weight in weights]


# Clocks with a weighing, and with the most rows and columns of sheets in houses that are drawn.
HOUSE_KINDS = [
    (2, (0, 1), 3, 4), (2, (0, 7), 2, 3), (3, (0, 1, 1), 2, 3), (3, (0, 1, 2), 3, 4), (4, (0, 1, 2, 1), 2, 3),
    (4, (0, 1, 1, 1), 2, 2), (4, (0, 1, 2, 3), 3, 3), (5, (0, 1, 2, 2, 1), 2, 3), (6, (0, 3, 1, 2, 1, 3), 2, 3),
    (6, (0, 1, 2, 3, 2, 1), 2, 2), (8, (0, 1, 1, 2, 1, 2, 1, 1), 1, 2), (9, (0, 3, 1, 2, 2, 1, 1, 2, 3), 1, 3),
    (12, tuple(min(a, 12 - a) for a in range(12)), 1, 3), (30, tuple(min(a, 30 - a) for a in range(30)), 1, 2),
]


def related_sheet(source, n, w, sheets, rows, length):
    """A sheet that has something in common with one of some sheets: so that promises with it often hold."""
    if not sheets or source.randrange(4) == 0:
        return chance_sheet(source, n, source.randrange(1, rows + 1), source.randrange(1, length + 1))
    sheet = source.choice(sheets)
    kind = source.randrange(3)
    if kind == 0:
        return sheet
    if kind == 1:
        exchange = source.choice(plain_exchanges(n, w, len(sheet[0])))
        return tuple(plain_led(n, exchange, row) for row in sheet)
    factor = source.randrange(n)
    return tuple(tuple(factor * hour % n for hour in row) for row in sheet)


def chance_sheets(source, n, w, rows, length, names):
    """Some named sheets as a dict."""
    sheets = {}
    for name in names:
        sheets[name] = related_sheet(source, n, w, list(sheets.values()), rows, length)
    return sheets


def chance_house(source, kind=None):
    """A house with named sheets and with some promises that hold."""
    n, w, rows, length = kind or source.choice(HOUSE_KINDS)
    sheets = chance_sheets(source, n, w, rows, length, source.sample(NAMES, source.randrange(1, 5)))
    house = House(n, w)
    for name, sheet in sheets.items():
        house.put(name, sheet)
    promises = [
        promise for promise in promises_of(sheets, (1, 2, 5)) if plain_holds(n, w, sheets, promise)
    ]
    for promise in source.sample(promises, min(len(promises), source.randrange(6))):
        house.make(promise)
    return house


NAMES = ("a", "b", "ab", "zz", "row", "least", "promise", "abcdefgh", "zzzzzzzz")


def told(house):
    """Everything that a house tells."""
    sheets = tuple((name, house.sheet_of(name)) for name, _ in house.names())
    return (house.n, house.weighing(), house.names(), house.promises(), house.text(), sheets)


def deeds_of(house):
    """The number of the deeds done, and what a house tells ahead of and behind each deed to undo or redo."""
    other = house.copied()
    found = [told(other)]
    while can(other.undo):
        found.insert(0, told(other))
    at = len(found)
    other = house.copied()
    while can(other.redo):
        found.append(told(other))
    return at, found


def can(deed):
    """Whether undo or redo does something."""
    try:
        deed()
    except (errors.NothingToUndo, errors.NothingToRedo):
        return False
    return True


def paths_of(thing):
    """The ways to all integers in nested tuples, each as a tuple of positions."""
    if isinstance(thing, tuple):
        return [(at,) + path for at, part in enumerate(thing) for path in paths_of(part)]
    return [()] if isinstance(thing, int) else []


def part_at(thing, path):
    for at in path:
        thing = thing[at]
    return thing


def replaced(thing, path, part):
    """Nested tuples with another part at the end of a way."""
    if not path:
        return part
    at = path[0]
    return thing[:at] + (replaced(thing[at], path[1:], part),) + thing[at + 1:]


def with_another_integer(thing, others):
    """Nested tuples, each with another integer at one place: one more, one less, or one of the others."""
    found = []
    for path in paths_of(thing):
        own = part_at(thing, path)
        for other in [own + 1, own - 1, -own] + list(others):
            if other != own:
                found.append(replaced(thing, path, other))
    return found


def misshapen(certificate):
    """Values that are no certificate, as a part has another kind or another length, or the string is another one."""
    found = [
        list(certificate), certificate + (0,), certificate + (certificate[-1],), certificate[:-1], certificate[1:],
        certificate[::-1], (certificate,), [certificate], {certificate[0]: certificate[1:]}, certificate[0],
        certificate[:1], (certificate[0], certificate[1:]),
    ]
    for word in (certificate[0].upper(), certificate[0] + " ", "", None, True, 1, [certificate[0]], (certificate[0],)):
        found.append((word,) + certificate[1:])
    for path in paths_of(certificate):
        own = part_at(certificate, path)
        for part in (None, str(own), (own,), [own], {}, ()) + ((bool(own),) if own in (0, 1) else ()):
            found.append(replaced(certificate, path, part))
    for path in sorted({path[:k] for path in paths_of(certificate) for k in range(1, len(path))}):
        own = part_at(certificate, path)
        for part in (list(own), own + own[-1:], own[:-1], own[1:], None, 0, dict(enumerate(own)), (own,)):
            found.append(replaced(certificate, path, part))
    return found


class Case(unittest.TestCase):
    """A test case that looks at kinds, too: 1 is not True here, and a list is no tuple."""

    def same(self, found, expected):
        self.assertEqual(repr(found), repr(expected))

    def raises(self, expected, function, *args, **named):
        """Whether a call raises an error of just this class, with just these attributes."""
        with self.assertRaises(errors.HourError) as held:
            function(*args, **named)
        self.assertIs(type(held.exception), type(expected))
        self.assertEqual(repr(vars(held.exception)), repr(vars(expected)))

    def refuses(self, error, function, args, name, wrong):
        """Whether a function raises an error with the value, for each wrong value of a parameter."""
        for thing in wrong:
            self.raises(error(thing), function, **{**args, name: thing})

    def run_examples(self, text):
        """Runs lines as the document prints them, and looks at what is printed below each one."""
        space = {}
        lines = text.strip().split("\n")
        for at, line in enumerate(lines):
            if not line.startswith(">>> "):
                continue
            answer = lines[at + 1] if at + 1 < len(lines) else ">>> "
            code = line[4:]
            if answer.startswith(">>> "):
                exec(code, space)
            elif answer.startswith("raises "):
                expected = eval(answer[7:], dict(vars(errors)))
                self.raises(expected, eval, code, space)
            else:
                self.assertEqual(repr(eval(code, space)), answer, code)
