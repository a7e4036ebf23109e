"""Tests of texts of houses [14.5], and of houses that are read back."""

import itertools
import re

from hoursheets.errors import BadText, HourError, NothingToRedo, NothingToUndo
from hoursheets.houses import House
from hoursheets.texts import read_house
from tests.helper import (
    CLOCKS, Case, chance, chance_house, deeds_of, odd_values, plain_holds, told,
)

TEXT = """clock 4
weights 0 1 2 1
sheet a
row 1 2
row 0 2
sheet b
row 3 2
sheet cd
row 1 2
promise alike b cd
promise within b a
promise kept cd b
promise least b 2"""

NUMBER = "(?:0|[1-9][0-9]*)"


def plain_bad_line(text):
    """The number of the first line of a text that is wrong, None if there is none; by the words of [14.5]."""
    lines = text.split("\n")
    if not re.fullmatch("clock " + NUMBER, lines[0]) or not 2 <= int(lines[0][6:]) <= 30:
        return 1
    n = int(lines[0][6:])
    if len(lines) < 2 or not re.fullmatch(f"weights 0(?: {NUMBER}){{{n - 1}}}", lines[1]):
        return 2
    w = tuple(int(word) for word in lines[1].split()[1:])
    if not all(1 <= weight <= 10 ** 6 for weight in w[1:]):
        return 2
    sheets, promises, open_name, at = {}, [], None, 2
    for at, line in enumerate(lines[2:], 3):
        row = re.fullmatch(f"row((?: {NUMBER}){{1,20}})", line)
        sheet = re.fullmatch("sheet ([a-z]{1,8})", line)
        if row and open_name is not None and not promises:
            hours = tuple(int(word) for word in row[1].split())
            rows = sheets[open_name]
            if max(hours) >= n or (rows and len(rows[0]) != len(hours)) or len(rows) == 20:
                return at
            sheets[open_name] = rows + (hours,)
        elif open_name is not None and not sheets[open_name]:
            return at
        elif sheet and not promises:
            open_name = sheet[1]
            if any(name >= open_name for name in sheets):
                return at
            sheets[open_name] = ()
        else:
            promise = plain_promise(line, sheets)
            if promise is None or promise in promises or not plain_holds(n, w, sheets, promise):
                return at
            promises.append(promise)
    if open_name is not None and not sheets[open_name]:
        return len(lines) + 1
    return None


def plain_promise(line, sheets):
    """The promise with names of sheets that a line tells, or None."""
    found = re.fullmatch(f"promise least ([a-z]+) ({NUMBER})", line)
    if found:
        weight = int(found[2])
        return ("least", found[1], weight) if found[1] in sheets and 1 <= weight <= 10 ** 9 else None
    found = re.fullmatch("promise (alike|kept|within) ([a-z]+) ([a-z]+)", line)
    if not found or found[2] not in sheets or found[3] not in sheets:
        return None
    if found[2] == found[3] or (found[1] == "alike" and found[2] > found[3]):
        return None
    return found.groups()


def texts():
    """Texts of houses: a known one, one without promises, one without names, and drawn ones."""
    source = chance(941)
    known = [TEXT, TEXT[:TEXT.index("\npromise")], "clock 2\nweights 0 1000000"]
    known.append("clock 3\nweights 0 1 2\nsheet a\nrow 0")
    return known + [chance_house(source).text() for _ in range(25)]


class Reading(Case):
    def check(self, text):
        """Whether a text is read, or refused with the number of the first wrong line."""
        line = plain_bad_line(text)
        if line is None:
            self.same(read_house(text).text(), text)
        else:
            self.raises(BadText(line), read_house, text)
        return line


class Texts(Reading):
    def test_examples(self):
        self.run_examples("""
>>> from hoursheets.texts import read_house
>>> read_house('clock 4\\nweights 0 1 2')
raises BadText(2)
""")

    def test_texts_of_houses(self):
        source = chance(942)
        for _ in range(80):
            house = chance_house(source)
            text = house.text()
            lines = [f"clock {house.n}", "weights " + " ".join(str(weight) for weight in house.weighing())]
            for name, sheet in house.names():
                lines.append(f"sheet {name}")
                lines.extend("row " + " ".join(str(hour) for hour in row) for row in sheet)
            lines.extend("promise " + " ".join(str(word) for word in promise) for promise in house.promises())
            self.same(text, "\n".join(lines))
            other = read_house(text=text)
            self.assertIs(type(other), House)
            self.same(told(other), told(house))
            self.same([other.is_same(house), house.is_same(other), deeds_of(other)[0]], [True, True, 1])
            self.raises(NothingToUndo(), other.undo)
            self.raises(NothingToRedo(), other.redo)

    def test_new_houses_of_each_clock(self):
        for n in CLOCKS:
            for w in ((0,) + (1,) * (n - 1), (0,) + (10 ** 6,) * (n - 1)):
                self.same(told(read_house(House(n, w).text())), told(House(n, w)))

    def test_the_text_tells_nothing_about_deeds(self):
        house = read_house(TEXT)
        house.times("b", 0, 3)
        house.undo()
        self.same(house.text(), TEXT)
        house.redo()
        house.times("b", 0, 3)
        self.same(house.text(), TEXT)

    def test_houses_that_were_read_go_on(self):
        house = read_house(TEXT)
        house.put("aa", ((0,),))
        house.leave("b")
        self.same([name for name, _ in house.names()], ["a", "aa", "cd"])
        house.undo()
        house.undo()
        self.same(house.text(), TEXT)
        self.raises(NothingToUndo(), house.undo)

    def test_promises_in_their_order(self):
        promises = TEXT.split("\n")[9:]
        for order in itertools.permutations(promises):
            text = TEXT[:TEXT.index("\npromise")] + "\n" + "\n".join(order)
            self.same(read_house(text).text(), text)


class WrongLines(Reading):
    def test_each_line_left_out(self):
        for text in texts():
            lines = text.split("\n")
            for at in range(len(lines)):
                self.check("\n".join(lines[:at] + lines[at + 1:]))
                self.check("\n".join(lines[:at]))
                self.check("\n".join(lines[at:]))

    def test_each_line_twice(self):
        for text in texts():
            lines = text.split("\n")
            for at in range(len(lines)):
                self.check("\n".join(lines[:at + 1] + lines[at:]))
                self.check("\n".join(lines + lines[at:at + 1]))

    def test_each_two_lines_exchanged(self):
        for text in texts():
            lines = text.split("\n")
            for i, j in itertools.combinations(range(len(lines)), 2):
                other = list(lines)
                other[i], other[j] = lines[j], lines[i]
                self.check("\n".join(other))

    def test_another_blank(self):
        for text in texts()[:12]:
            lines = text.split("\n")
            for at, line in enumerate(lines):
                places = [k for k, sign in enumerate(line) if sign == " "] + [0, len(line)]
                for k in places:
                    self.changed(lines, at, line[:k] + " " + line[k:])
                for k in places[:-2]:
                    for sign in ("", "  ", "\t", "_", ",", " \r"):
                        self.changed(lines, at, line[:k] + sign + line[k + 1:])
                self.changed(lines, at, "")
                self.changed(lines, at, " ")

    def changed(self, lines, at, line):
        """Whether a text with another line is refused there."""
        self.assertEqual(self.check("\n".join(lines[:at] + [line] + lines[at + 1:])), at + 1)

    def test_integers_with_a_sign_or_a_leading_zero(self):
        for text in texts()[:12]:
            lines = text.split("\n")
            for at, line in enumerate(lines):
                words = line.split(" ")
                for k, word in enumerate(words):
                    if word.isdigit():
                        for other in (
                            "+" + word, "-" + word, "0" + word, "00" + word, word + ".0", word + "a", "_" + word,
                            "1_0", "", "x", "1e0", "0x1", "9" * 40, "9" * 2000, "99999999999",
                        ):
                            self.changed(lines, at, " ".join(words[:k] + [other] + words[k + 1:]))

    def test_other_integers(self):
        for text in texts()[:12]:
            lines = text.split("\n")
            for at, line in enumerate(lines):
                words = line.split(" ")
                for k, word in enumerate(words):
                    if word.isdigit():
                        for other in ("0", "1", "2", "3", "31", "1000000", "1000001", "1000000000", "1000000001"):
                            more = lines[:at] + [" ".join(words[:k] + [other] + words[k + 1:])] + lines[at + 1:]
                            self.check("\n".join(more))

    def test_line_feeds(self):
        for text in texts():
            many = text.count("\n") + 1
            self.raises(BadText(many + 1), read_house, text + "\n")
            self.raises(BadText(1), read_house, "\n" + text)
            for at in range(1, many):
                lines = text.split("\n")
                self.check("\n".join(lines[:at] + [""] + lines[at:]))
            self.raises(BadText(1), read_house, text.replace("\n", "\r\n"))
            self.raises(BadText(1), read_house, text.replace("\n", " "))

    def test_words_left_out_twice_and_exchanged(self):
        for text in texts()[:12]:
            lines = text.split("\n")
            for at, line in enumerate(lines):
                words = line.split(" ")
                others = [words[:k] + words[k + 1:] for k in range(len(words))]
                others += [words[:k + 1] + words[k:] for k in range(len(words))] + [words[::-1], words + ["0"]]
                others += [[words[0].upper()] + words[1:], [words[0] + "s"] + words[1:]]
                others += [["promise"] + words, ["row"] + words]
                for other in others:
                    self.check("\n".join(lines[:at] + [" ".join(other)] + lines[at + 1:]))

    def test_a_promise_twice(self):
        lines = TEXT.split("\n")
        for line in lines[9:]:
            self.raises(BadText(14), read_house, TEXT + "\n" + line)
        for at in range(9, 13):
            self.raises(BadText(at + 2), read_house, "\n".join(lines[:at + 1] + lines[at:]))

    def test_names(self):
        for names, line in [
            (("a", "b"), None), (("b", "a"), 5), (("a", "a"), 5), (("a", "aa"), None), (("aa", "a"), 5),
            (("b", "aa"), 5),
            (("abcdefgh", "zzzzzzzz"), None), (("abcdefghi", "b"), 3), (("", "b"), 3), (("A", "b"), 3),
            (("a1", "b"), 3),
            (("a", "b c"), 5), (("a", "B"), 5), (("row", "sheet"), None), (("alike", "clock"), None), (("a-b", "c"), 3),
        ]:
            text = "clock 2\nweights 0 1\nsheet {}\nrow 1\nsheet {}\nrow 0".format(*names)
            self.assertEqual(self.check(text), line)
        text = "clock 2\nweights 0 1" + "".join(f"\nsheet {name}\nrow 1" for name in "abdc")
        self.raises(BadText(9), read_house, text)

    def test_sheets_without_rows(self):
        start = "clock 2\nweights 0 1\nsheet a"
        for rest, line in [
            ("", 4), ("\nsheet b\nrow 1", 4), ("\npromise least a 1", 4), ("\n", 4), ("\nrow", 4),
            ("\nrow 1\nsheet b", 6),
            ("\nrow 1\nsheet b\npromise least a 1", 6), ("\nrow 1\nrow", 5), ("\nrow 1", None), ("\nrow 1\n", 5),
        ]:
            self.assertEqual(self.check(start + rest), line)

    def test_rows_of_unlike_lengths(self):
        start = "clock 3\nweights 0 1 1\nsheet a\nrow 1 2"
        for rest, line in [
            ("\nrow 1", 5), ("\nrow 1 2 0", 5), ("\nrow 2 2\nrow 0", 6), ("\nrow 0 0\nsheet b\nrow 1", None),
            ("\nsheet b\nrow 1\nrow 1 2", 7), ("\nrow 1 3", 5), ("\nrow -1 2", 5), ("\nrow 1 2\nrow 1 2", None),
        ]:
            self.assertEqual(self.check(start + rest), line)

    def test_rows_of_21_hours_and_sheets_of_21_rows(self):
        start = "clock 2\nweights 0 1\nsheet a\nrow " + " ".join("1" * 20)
        self.assertEqual(self.check(start), None)
        self.assertEqual(self.check(start + " 1"), 4)
        start = "clock 2\nweights 0 1\nsheet a" + "\nrow 1" * 20
        self.same(len(read_house(start).sheet_of("a")), 20)
        self.raises(BadText(24), read_house, start + "\nrow 1")

    def test_promises_that_do_not_hold_or_name_no_sheet(self):
        start = TEXT[:TEXT.index("\npromise")]
        for rest, line in [
            ("promise least a 3", 10), ("promise within a b", 10), ("promise alike a b", 10), ("promise kept a b", 10),
            ("promise kept b cd", None), ("promise alike b cd", None), ("promise alike cd b", 10),
            ("promise alike b b", 10),
            ("promise alike b c", 10), ("promise alike b", 10), ("promise", 10), ("promise most a b", 10),
            ("promise least a 0", 10), ("promise least c 1", 10), ("promise least a b", 10), ("promise least 2 a", 10),
            ("promise least a 1000000001", 10), ("promise least a 2 2", 10), ("promise kept b cd a", 10),
            ("promise kept b 2", 10), ("promise within b cd\npromise within b b", 11),
            ("promise least b 2\nsheet e\nrow 1", 11),
            ("promise least b 2\nrow 1 2", 11), ("promise least b 2\nclock 4", 11), ("promise Least b 2", 10),
        ]:
            self.assertEqual(self.check(start + "\n" + rest), line)

    def test_the_greatest_integers(self):
        start = "clock 2\nweights 0 1000000\nsheet a\nrow 0\nsheet b\nrow 1\npromise "
        for rest, line in [
            ("least a 1000000000", None), ("least a 1000000001", 7), ("least b 1000000", None), ("least b 1000001", 7),
            ("least a 10000000000", 7), ("least a 999999999", None),
        ]:
            self.assertEqual(self.check(start + rest), line)

    def test_the_first_wrong_line_of_several(self):
        lines = TEXT.split("\n")
        for i, j in itertools.combinations(range(len(lines)), 2):
            other = list(lines)
            other[i], other[j] = "wrong", "wrong"
            self.raises(BadText(i + 1), read_house, "\n".join(other))

    def test_clocks_and_weights(self):
        for text, line in [
            ("", 1), ("clock", 1), ("clock ", 1), ("clock 1", 1), ("clock 31", 1), ("clock 2", 2), ("clock 2\n", 2),
            ("clock 30", 2), ("clock 2 2\nweights 0 1", 1), ("Clock 2\nweights 0 1", 1), ("clock 2\nweights", 2),
            ("clock 2\nweights 0", 2), ("clock 2\nweights 0 1 1", 2), ("clock 2\nweights 1 1", 2),
            ("clock 2\nweights 0 0", 2),
            ("clock 2\nweights 0 1000001", 2), ("clock 2\nsheet a\nrow 1", 2), ("clock 2\nweights 0 1\nrow 1", 3),
            ("clock 2\nweights 0 1\nweights 0 1", 3), ("clock 2\nweights 0 1\npromise least a 1", 3),
            ("weights 0 1", 1),
            ("clock 2\nweights 0 1\n", 3), ("clock two\nweights 0 1", 1), ("clock 2\nweights 0 1", None), (" ", 1),
            ("\n", 1),
        ]:
            self.assertEqual(self.check(text), line)

    def test_no_text_at_all(self):
        house = read_house(TEXT)
        for thing in odd_values() + [house, (TEXT,), [TEXT], {TEXT: 1}, TEXT.split("\n"), told(house)]:
            if isinstance(thing, str):
                self.raises(BadText(1), read_house, thing)
            else:
                self.raises(BadText(0), read_house, thing)

    def test_drawn_signs_changed(self):
        source = chance(943)
        for text in texts():
            for _ in range(150):
                at = source.randrange(len(text))
                sign = source.choice(" \n0123456789abcz-+prowk")
                self.check(text[:at] + sign + text[at + source.randrange(2):])

    def test_any_text_raises_no_other_error(self):
        source = chance(944)
        words = ["clock", "weights", "sheet", "row", "promise", "alike", "least"] + list("ab0124\n ")
        for _ in range(2000):
            text = "".join(source.choices(words, k=source.randrange(30)))
            try:
                self.same(read_house(text).text(), text)
            except HourError as error:
                self.assertIs(type(error), BadText)
                self.assertTrue(1 <= error.line <= text.count("\n") + 2)
