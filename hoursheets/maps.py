"""Maps of sheets [6.1], certificates that they are sound [6.2], and maps that keep weights [6.5]."""

from hoursheets.annulled import has_words
from hoursheets.certificates import is_kind
from hoursheets.errors import BadSheet
from hoursheets.leads import marked, reduced_rows
from hoursheets.multipliers import multipliers_of, words_in_order
from hoursheets.reduced import same_words
from hoursheets.rows import columns_of, is_multipliers, is_sheet, need_sheet, word_of
from hoursheets.weighings import need_weighing, weigh
from hoursheets.within import judged


def need_map(n, sheet, images):
    """Raises BadSheet with the first value that is no sheet, or with images of another number of rows."""
    need_sheet(n, sheet)
    if not is_sheet(n, images) or len(images) != len(sheet):
        raise BadSheet(images)


def judge_sound(n, sheet, images):
    """A certificate that a map is sound, or that multipliers clash."""
    need_map(n, sheet, images)
    # Each column of images is a sum of multiples of the columns of the sheet, or some multipliers bar it.
    columns = columns_of(n, sheet)
    leading = reduced_rows(n, marked(columns, 1))
    proofs = []
    for column in columns_of(n, images):
        kind, proof = judged(n, columns, leading, column)
        if kind == "barred":
            return ("clash", proof)
        proofs.append(proof)
    return ("by", tuple(zip(*proofs)))


def is_table_of(n, sheet, images, thing):
    """Whether any value is a row for each column of a sheet that tell the images by these columns."""
    if not is_sheet(n, thing) or len(thing) != len(sheet[0]):
        return False
    return all(word_of(n, thing, row) == image for row, image in zip(sheet, images))


def sound_holds(n, sheet, images, thing):
    """Whether any value is a certificate of one of the two kinds."""
    need_map(n, sheet, images)
    if is_kind(thing, "by", 2):
        return is_table_of(n, sheet, images, thing[1])
    if is_kind(thing, "clash", 2) and is_multipliers(n, sheet, thing[1]):
        return not any(word_of(n, sheet, thing[1])) and any(word_of(n, images, thing[1]))
    return False


def is_sound(n, sheet, images):
    """Whether multipliers that have the same word have the same image."""
    need_map(n, sheet, images)
    return has_words(n, columns_of(n, sheet), columns_of(n, images))


def is_one_to_one(n, sheet, images):
    """Whether a map is sound, and unlike words have unlike images."""
    need_map(n, sheet, images)
    return same_words(n, columns_of(n, sheet), columns_of(n, images))


def leads_to(n, sheet, images, other):
    """Whether the words of a map are those of another sheet."""
    need_map(n, sheet, images)
    return same_words(n, images, other)


def unkept_word(n, w, sheet, images):
    """A certificate with the least multipliers whose word and image weigh unlike; None if there are none."""
    need_weighing(n, w)
    need_map(n, sheet, images)
    words, others = words_in_order(n, sheet), words_in_order(n, images)
    for multipliers, word, image in zip(multipliers_of(n, len(sheet)), words, others):
        if weigh(w, word) != weigh(w, image):
            return ("word", multipliers)
    return None
