import itertools
import random
import re
import unittest

from facesagain.errors import InvalidFamily, InvalidText
from facesagain.families import some_family
from facesagain.texts import read_family, read_sheet, write_family, write_sheet
from tests.samples import (
    HUGE, PAPER, any_sheets, families, impossible_sheets, many_groups, possible_sheets, wrong_families,
)
from tests.wrong import WrongCalls

NUMBER = "(?:0|[1-9][0-9]{0,29})"
ROW = re.compile(f"{NUMBER}(?:,{NUMBER})*")
DAY = "(?:[0-9]|[12][0-9])"
GROUP = re.compile(f"({DAY}(?:[.]{DAY})*):([1-9][0-9]{{0,29}})")

SIGNS = list(" ,.:-+0129a\n_") + ["  ", "00", "10", ",0", ".2", ":1", " 0", "- "]


def sheet_or_place(text):
    """The sheet of a text, or the number of the first word that cannot stand there, told apart from the program."""
    sheet = []
    for place, word in enumerate(text.split(" ")):
        if place == 30 or not ROW.fullmatch(word):
            return place
        sheet.append([int(number) for number in word.split(",")])
        lengths = [len(row) for row in sheet]
        if lengths not in [[min(day + 1, width) for day in range(place + 1)] for width in range(1, place + 2)]:
            return place
    return sheet


def family_or_place(text):
    """The family of a text, or the number of the first word that cannot stand there, told apart from the program."""
    words = text.split(" ")
    if words[0] == "-":
        return 1 if words[1:] else []
    family = []
    for place, word in enumerate(words):
        found = GROUP.fullmatch(word)
        if place == 2000 or not found:
            return place
        pattern = tuple(int(day) for day in found[1].split("."))
        patterns = [days for days, _ in family] + [pattern]
        if pattern != tuple(sorted(set(pattern))) or patterns[-2:] != sorted(set(patterns[-2:])):
            return place
        family.append((pattern, int(found[2])))
    return family


def short_words(groups):
    """The words of so many tuples of an ascending family, of such patterns as have the shortest texts."""
    patterns = [days for length in range(1, 6) for days in itertools.combinations(range(30), length)]
    texts = {days: ".".join(map(str, days)) for days in patterns}
    shortest = sorted(patterns, key=lambda days: (len(texts[days]), days))[:groups]
    return [texts[days] + ":1" for days in sorted(shortest)]


def changed_texts(text):
    """Texts in which at one place some signs were put in or changed, or one was left out."""
    for at in range(len(text) + 1):
        for signs in SIGNS:
            yield text[:at] + signs + text[at:]
            if at < len(text):
                yield text[:at] + signs + text[at + 1:]
        yield text[:at] + text[at + 1:]


class TextsTest(WrongCalls):
    def check_place(self, place, call, text):
        error = self.check_error(InvalidText, call, text)
        self.assertEqual(error.place, place, text)
        self.assertIs(type(error.place), int)

    def check_reading(self, call, expected, text):
        if isinstance(expected, int):
            self.check_place(expected, call, text)
        else:
            self.assertEqual(call(text), expected)

    def check_changed(self, call, told, texts):
        read, refused = 0, set()
        for text in texts:
            for changed in changed_texts(text):
                expected = told(changed)
                self.check_reading(call, expected, changed)
                if isinstance(expected, int):
                    refused.add(expected)
                else:
                    read += 1
        self.assertGreater(read, 20)
        self.assertGreater(len(refused), 3)


class SheetTest(TextsTest):
    def test_worked_examples(self):
        for sheet, text in (
            (PAPER, "3 3,4 2,4"), ([[0]], "0"), ([[7], [8], [9]], "7 8 9"), ([[1], [2, 3], [4, 5, 6]], "1 2,3 4,5,6"),
            ([[10], [20, 30]], "10 20,30"), ([[1], [0, 0], [0, 0, 5], [0, 1, 2]], "1 0,0 0,0,5 0,1,2"),
            ([[HUGE]], "9" * 30),
        ):
            self.assertEqual(write_sheet(sheet), text)
            self.assertEqual(read_sheet(text), sheet)

    def test_all_sizes(self):
        for count in range(1, 31):
            for width in range(1, count + 1):
                sheet = [[100 * day + back for back in range(min(day + 1, width))] for day in range(count)]
                text = write_sheet(sheet)
                self.assertEqual(text, " ".join(",".join(map(str, row)) for row in sheet))
                self.assertEqual(read_sheet(text), sheet)

    def test_there_and_back(self):
        for sheet in any_sheets() + [sheet for sheet, _, _, _ in possible_sheets()]:
            text = write_sheet(sheet)
            if max(number for row in sheet for number in row) <= HUGE:
                self.assertEqual(read_sheet(text), sheet)
                self.assertEqual(write_sheet(read_sheet(text)), text)

    def test_sheets_that_no_family_has(self):
        for sheet in impossible_sheets()[:20]:
            self.assertEqual(read_sheet(write_sheet(sheet)), sheet)

    def test_longer_numbers_raise_nothing(self):
        self.assertIs(type(write_sheet([[HUGE + 1], [HUGE * HUGE, 0]])), str)

    def test_lists_are_new(self):
        answer = read_sheet("3 3 3")
        self.assertEqual(len({id(row) for row in answer}), 3)
        answer[0].append(1)
        answer.pop()
        self.assertEqual(read_sheet("3 3 3"), [[3], [3], [3]])

    def test_words_that_cannot_stand_there(self):
        for text, place in (
            ("", 0), (" ", 0), ("\n", 0), ("x", 0), ("-", 0), ("- 1", 0), ("1,2", 0), ("1,", 0), (",1", 0), (",", 0),
            ("01", 0), ("00", 0), ("+1", 0), ("-1", 0), ("1.0", 0), ("1e3", 0), ("1_0", 0), ("0x1", 0), ("[[1]]", 0),
            (" 1", 0), ("1 ", 1), ("1  1", 1), ("1\n", 0), ("1\n1", 0), ("1 1\n", 1), ("1\t1", 0), ("1, 1", 0),
            ("1 1,", 1), ("1 ,1", 1), ("1 1,,1", 1), ("1 1,1,1", 1), ("1 1 1,1", 2), ("1 1,1 1", 2),
            ("1 1,1 1,1,1,1", 2), ("1 1,1 1,1 1,1,1", 3), ("1 1,1 1,1,1 1,1", 3), ("1 1 1 1,1,1,1", 3),
            ("1 01,1", 1), ("1 1,01", 1), ("1 1,-1", 1), ("1 1,+1", 1), ("1 1,1 x", 2), ("1 1,1 1,1 ", 3),
            ("9" * 31, 0), ("1 " + "1" * 31, 1), ("1 1,1" + "0" * 30, 1), ("1" * 5000, 0), ("0" * 31, 0),
            ("1 x y", 1), ("x y", 0), ("1 1,1,1 x", 1),
        ):
            self.check_place(place, read_sheet, text)

    def test_limits(self):
        self.assertEqual(read_sheet("9" * 30 + " 0"), [[HUGE], [0]])
        for row in ("0", "7"):
            text = " ".join([row] * 30)
            self.assertEqual(len(read_sheet(text)), 30)
            self.check_place(30, read_sheet, text + " " + row)
            self.check_place(30, read_sheet, text + " x")
            self.check_place(30, read_sheet, text + " ")
            self.check_place(30, read_sheet, text + " 1 x")
            self.check_place(29, read_sheet, text + "x")
        full = " ".join(",".join("1" * (day + 1)) for day in range(31))
        self.check_place(30, read_sheet, full)
        self.assertEqual(len(read_sheet(full[:-62])), 30)

    def test_one_place_changed(self):
        texts = ["3 3,4 2,4", "0", "7 8 9", "1 2,3 4,5,6", "10 20,30 0,0", "5 5,5 5,5,5 5,5,5"]
        self.check_changed(read_sheet, sheet_or_place, texts)

    def test_wrong_sheets(self):
        self.check_wrong_sheets(write_sheet)


class FamilyTest(TextsTest):
    def test_worked_examples(self):
        for family, text in (
            ([], "-"), ([((0,), 1)], "0:1"), ([((0, 2, 29), 40)], "0.2.29:40"), ([((4,), HUGE)], "4:" + "9" * 30),
            ([((0,), 1), ((0, 1), 2), ((1, 2), 1), ((2,), 1)], "0:1 0.1:2 1.2:1 2:1"),
            ([((2,), 3), ((10,), 1)], "2:3 10:1"),
        ):
            self.assertEqual(write_family(family), text)
            self.assertEqual(read_family(text), family)

    def test_there_and_back(self):
        for family in [family for family, _ in families()] + [many_groups(2000)]:
            text = write_family(family)
            self.assertEqual(text, " ".join(f"{'.'.join(map(str, days))}:{many}" for days, many in family) or "-")
            self.assertEqual(read_family(text), family)
            self.assertEqual(write_family(read_family(text)), text)

    def test_families_that_are_told(self):
        for sheet, _, _, _ in possible_sheets():
            family = some_family(sheet)
            text = write_family(family)
            if max([many for _, many in family], default=0) <= HUGE:
                self.assertEqual(read_family(text), family)

    def test_longer_numbers_raise_nothing(self):
        self.assertIs(type(write_family([((0,), HUGE + 1), ((1,), HUGE * HUGE)])), str)

    def test_lists_are_new(self):
        for text in ("-", "0:1 1:1"):
            answer = read_family(text)
            expected = list(answer)
            answer.append(None)
            self.assertIsNot(read_family(text), answer)
            self.assertEqual(read_family(text), expected)

    def test_words_that_cannot_stand_there(self):
        for text, place in (
            ("", 0), (" ", 0), ("\n", 0), ("x", 0), ("--", 0), ("-\n", 0), (" -", 0), ("- ", 1), ("- 1", 1), ("- -", 1),
            ("- 0:1", 1), ("-  ", 1), ("0:1 -", 1), ("-0:1", 0), ("0", 0), ("0:", 0), (":1", 0), (":", 0), ("0:1:1", 0),
            ("0::1", 0), (".:1", 0), ("0.:1", 0), (".0:1", 0), ("0..1:1", 0), ("0,1:1", 0), ("0:1,1", 0), ("0:1.0", 0),
            ("0:0", 0), ("0:00", 0), ("0:01", 0), ("00:1", 0), ("01:1", 0), ("0.01:1", 0), ("+0:1", 0), ("0:+1", 0),
            ("0:-1", 0), ("-1:1", 0), ("0.-1:1", 0), ("30:1", 0), ("0.30:1", 0), ("29.30:1", 0), ("100:1", 0),
            ("0.0:1", 0), ("1.0:1", 0), ("0.2.1:1", 0), ("0.1.1:1", 0), (" 0:1", 0), ("0:1 ", 1), ("0:1  1:1", 1),
            ("0:1\n", 0), ("0:1\n1:1", 0), ("0:1 1:1\n", 1), ("0:1 0:1", 1), ("0:1 0:2", 1), ("0:2 0:1", 1),
            ("1:1 0:1", 1), ("0.1:1 0:1", 1), ("0:1 0.1:1 0:1", 2), ("2:1 10:1 3:1", 2), ("0:1 2:1 1:1 x", 2),
            ("0:" + "9" * 31, 0), ("0:1 1:1" + "0" * 30, 1), ("0" * 31 + ":1", 0), ("0:1 1:0", 1), ("0:1 1:x", 1),
            ("0: 1", 0), ("0 :1", 0), ("((0,), 1)", 0), ("0:1 30:1", 1), ("0:1 0.1.2.30:1", 1), ("x - 0:1", 0),
        ):
            self.check_place(place, read_family, text)

    def test_limits(self):
        words = short_words(2001)
        text = " ".join(words[:2000])
        self.assertLess(len(text), 20000)
        self.assertEqual(len(read_family(text)), 2000)
        for more in (words[2000], "29:1", "x", "", "-", words[0], words[2000] + " x"):
            self.check_place(2000, read_family, f"{text} {more}")
        self.check_place(1999, read_family, text + "x")
        self.assertEqual(read_family("29:" + "9" * 30), [((29,), HUGE)])
        self.assertEqual(read_family(".".join(map(str, range(30))) + ":1"), [(tuple(range(30)), 1)])
        self.check_place(0, read_family, ".".join(map(str, range(31))) + ":1")

    def test_one_place_changed(self):
        texts = ["-", "0:1", "0:1 0.1:2 1.2:1 2:1", "0.2.29:40", "2:3 10:1 11.12:20", "- 1", "0.1:1 0.2:1 1:10"]
        self.check_changed(read_family, family_or_place, texts)

    def test_drawn_texts(self):
        rng = random.Random(71)
        for call, told in ((read_family, family_or_place), (read_sheet, sheet_or_place)):
            for _ in range(3000):
                text = "".join(rng.choice("000112:,. -") for _ in range(rng.randint(0, 9)))
                self.check_reading(call, told(text), text)

    def test_wrong_families(self):
        for thing in wrong_families():
            self.check_error(InvalidFamily, write_family, thing)


if __name__ == "__main__":
    unittest.main()
