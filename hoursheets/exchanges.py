"""Exchanges of columns [6.3], maps that are made by them [6.4], and maps of a sheet onto itself [6.6]."""

from hoursheets.certificates import is_kind
from hoursheets.clocks import inverse
from hoursheets.errors import BadExchange, OtherLengths
from hoursheets.maps import need_map
from hoursheets.reduced import words_of
from hoursheets.rows import MOST_HOURS, columns_of, is_row, multiple, need_row
from hoursheets.weighings import keepers, need_weighing
from hoursheets.wholes import is_wholes


def is_exchange(n, w, thing):
    """Whether any value is an exchange for a weighing and some length."""
    kept = keepers(n, w)
    if not isinstance(thing, tuple) or len(thing) != 2:
        return False
    places, factors = thing
    if not isinstance(places, tuple) or not 1 <= len(places) <= MOST_HOURS:
        return False
    length = len(places)
    if not is_wholes(places, length) or not is_wholes(factors, length):
        return False
    return sorted(places) == list(range(length)) and all(factor in kept for factor in factors)


def need_exchange(n, w, thing):
    """Raises BadExchange for any value that is no exchange."""
    if not is_exchange(n, w, thing):
        raise BadExchange(thing)


def led_by(n, exchange, row):
    """The row to which an exchange leads a row, both known to be of one length."""
    places, factors = exchange
    return tuple([factor * row[place] % n for place, factor in zip(places, factors)])


def sheet_led_by(n, exchange, sheet):
    """The sheet to which an exchange leads a sheet, both known to be of one length."""
    return tuple([led_by(n, exchange, row) for row in sheet])


def exchanged(n, w, exchange, row):
    """The row to which an exchange leads a row."""
    need_exchange(n, w, exchange)
    need_row(n, row)
    if len(exchange[0]) != len(row):
        raise OtherLengths()
    return led_by(n, exchange, row)


def both(n, w, first, second):
    """The exchange that does one exchange and then a second one."""
    need_exchange(n, w, first)
    need_exchange(n, w, second)
    if len(first[0]) != len(second[0]):
        raise OtherLengths()
    places = tuple([first[0][place] for place in second[0]])
    return (places, led_by(n, second, first[1]))


def undone(n, w, exchange):
    """The exchange that undoes an exchange."""
    need_exchange(n, w, exchange)
    places, factors = exchange
    back = [places.index(place) for place in range(len(places))]
    return (tuple(back), tuple([inverse(n, factors[at]) for at in back]))


def least_of_class(n, kept, column):
    """The least of the multiples of a column by the keepers."""
    return min([multiple(n, keeper, column) for keeper in kept])


def column_class(n, w, column):
    """The least column of the class of a column."""
    kept = keepers(n, w)
    need_row(n, column)
    return least_of_class(n, kept, column)


def class_places(n, kept, columns):
    """The positions of the columns of each class, by the least column of the class."""
    places = {}
    for at, column in enumerate(columns):
        places.setdefault(least_of_class(n, kept, column), []).append(at)
    return places


def class_counts(n, w, sheet):
    """The ascending tuple of pairs (least column, how often) of all classes of the columns of a sheet."""
    kept = keepers(n, w)
    places = class_places(n, kept, columns_of(n, sheet))
    return tuple((column, len(places[column])) for column in sorted(places))


def need_like_map(n, w, sheet, images):
    """Raises BadWeighing, then BadSheet as for maps, then OtherLengths if the map has another length."""
    need_weighing(n, w)
    need_map(n, sheet, images)
    if len(sheet[0]) != len(images[0]):
        raise OtherLengths()


def keeper_between(n, kept, one, other):
    """A keeper that leads the one of two columns of one class to the other one."""
    return [keeper for keeper in kept if multiple(n, keeper, one) == other][0]


def judge_made(n, w, sheet, images):
    """A certificate that a map is made by an exchange, or that a class stands unlike often in the two."""
    need_like_map(n, w, sheet, images)
    kept = keepers(n, w)
    columns, goals = columns_of(n, sheet), columns_of(n, images)
    places, others = class_places(n, kept, columns), class_places(n, kept, goals)
    source = [0] * len(goals)
    for least in {**places, **others}:
        here, there = places.get(least, []), others.get(least, [])
        if len(here) != len(there):
            return ("unlike", least, len(here), len(there))
        for place, at in zip(here, there):
            source[at] = place
    factors = [keeper_between(n, kept, columns[place], goals[at]) for at, place in enumerate(source)]
    return ("made", tuple(source), tuple(factors))


def is_making(n, w, sheet, images, exchange):
    """Whether any value is an exchange that makes a map."""
    if not is_exchange(n, w, exchange) or len(exchange[0]) != len(sheet[0]):
        return False
    return all(led_by(n, exchange, row) == image for row, image in zip(sheet, images))


def is_unlike_class(n, w, sheet, images, column, counts):
    """Whether any values are the least column of a class and its unlike counts in a sheet and a map."""
    if not is_row(n, column) or not is_wholes(counts, 2):
        return False
    kept = keepers(n, w)
    places, others = class_places(n, kept, columns_of(n, sheet)), class_places(n, kept, columns_of(n, images))
    found = (len(places.get(column, [])), len(others.get(column, [])))
    return counts == found and counts[0] != counts[1]


def made_holds(n, w, sheet, images, thing):
    """Whether any value is a certificate of one of the two kinds."""
    need_like_map(n, w, sheet, images)
    if is_kind(thing, "made", 3):
        return is_making(n, w, sheet, images, thing[1:])
    if is_kind(thing, "unlike", 4):
        return is_unlike_class(n, w, sheet, images, thing[1], thing[2:])
    return False


def has_just(n, kept, least, columns, counts):
    """Whether columns have just the counts of classes; least keeps the least columns that were worked out."""
    left = {column: counts[column] for column in counts}
    for column in columns:
        if column not in least:
            least[column] = least_of_class(n, kept, column)
        if left.get(least[column], 0) == 0:
            return False
        left[least[column]] -= 1
    return True


def own_maps(n, w, sheet):
    """The ascending tuple of all maps of a sheet that are made by an exchange and lead to the sheet itself."""
    kept = keepers(n, w)
    words = words_of(n, sheet)
    least = {}
    found = [()]
    for many in range(1, len(sheet) + 1):
        # An exchange that makes a map makes it of the first rows alone, too, so their images are sought first.
        places = class_places(n, kept, columns_of(n, sheet[:many]))
        counts = {column: len(places[column]) for column in places}
        longer = []
        for images in found:
            for word in words:
                rows = images + (word,)
                if has_just(n, kept, least, list(zip(*rows)), counts):
                    longer.append(rows)
        found = longer
    return tuple(found)
