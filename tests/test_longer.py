import random
import unittest

from facesagain.errors import InvalidDay, InvalidNumber
from facesagain.families import has_sheet
from facesagain.gaps import away_of, fresh_of
from facesagain.longer import longer_family, longer_paper, longer_range
from facesagain.sheets import sheet_of, unlike_of
from tests.samples import HUGE, PAPER, large_cases, possible_sheets, small_cases, unlike, widths
from tests.wrong import WrongCalls


def stretches(sheet):
    return [(first, last) for first in range(len(sheet)) for last in range(first, len(sheet))]


def longer_stretches(sheet):
    return [(first, last) for first, last in stretches(sheet) if last - first >= len(sheet[-1])]


def bounds_by_result(sheet, first, last):
    """The dict of the sums of R4 for each t."""
    width = len(sheet[-1])
    return {
        t: sum(away_of(sheet, day) for day in range(first, t))
        + sum(fresh_of(sheet, day) for day in range(t + width, last + 1))
        for t in range(first, last - width + 2)
    }


class RangeTest(WrongCalls):
    def test_worked_examples(self):
        self.assertEqual(longer_range(PAPER, 0, 2), (4, 5))
        self.assertEqual(longer_range(PAPER, 0, 1), (4, 4))
        self.assertEqual(longer_range(PAPER, 2, 2), (2, 2))
        self.assertEqual(longer_range([[7]], 0, 0), (7, 7))
        self.assertEqual(longer_range([[2], [3]], 0, 1), (3, 5))
        self.assertEqual(longer_range([[2], [3], [4]], 0, 2), (4, 9))
        self.assertEqual(longer_range([[4], [2], [3]], 0, 2), (4, 9))
        self.assertEqual(longer_range([[HUGE], [HUGE]], 0, 1), (HUGE, 2 * HUGE))

    def test_small_sheets_by_all_their_families(self):
        wide = 0
        for sheet, own in small_cases():
            for first, last in stretches(sheet):
                numbers = {unlike(family, first, last) for family in own}
                answer = longer_range(sheet, first, last)
                self.assertIs(type(answer), tuple)
                self.assertEqual(answer, (min(numbers), max(numbers)))
                self.assertEqual(numbers, set(range(min(numbers), max(numbers) + 1)))
                wide += len(numbers) > 2
        self.assertGreater(wide, 10)

    def test_told_stretches(self):
        for sheet, family, count, width in possible_sheets():
            for first in range(count):
                for last in range(first, min(first + width, count)):
                    number = unlike(family, first, last) if count < 9 else unlike_of(sheet, first, last)
                    self.assertEqual(longer_range(sheet, first, last), (number, number))

    def test_a_family_is_within(self):
        for sheet, family, _, _ in possible_sheets():
            for first, last in longer_stretches(sheet)[::5]:
                least, greatest = longer_range(sheet, first, last)
                self.assertTrue(least <= unlike(family, first, last) <= greatest)

    def test_large_sheets_by_the_result(self):
        for sheet in large_cases():
            width = len(sheet[-1])
            for first, last in longer_stretches(sheet)[::3] + longer_stretches(sheet)[-1:]:
                fresh = [fresh_of(sheet, day) for day in range(first + width, last + 1)]
                greatest = unlike_of(sheet, first, first + width - 1) + sum(fresh)
                least = greatest - min(bounds_by_result(sheet, first, last).values())
                self.assertEqual(longer_range(sheet, first, last), (least, greatest))

    def test_the_whole_of_30_days(self):
        everyone = [(tuple(range(30)), 5)]
        apart = [((day,), day + 1) for day in range(30)]
        weekly = [(tuple(range(day, 30, 7)), 2) for day in range(7)]
        for width in range(1, 31):
            self.assertEqual(longer_range(sheet_of([], 30, width), 0, 29), (0, 0))
            self.assertEqual(longer_range(sheet_of(apart, 30, width), 0, 29)[1], 465)
            least, greatest = longer_range(sheet_of(everyone, 30, width), 0, 29)
            self.assertEqual((least, greatest), (5, 5) if width > 1 else (5, 150))
            least, greatest = longer_range(sheet_of(weekly, 30, width), 0, 29)
            self.assertEqual((least, greatest), (14, 14) if width > 7 else (2 * width, 60))

    def test_wrong_sheets(self):
        for first, last in ((0, 0), (0, 1), (-1, 0), (1, 0), (0, 30)):
            self.check_wrong_sheets(longer_range, first, last)

    def test_wrong_days(self):
        for count in (1, 2, 5, 30):
            for width in widths(count):
                sheet = sheet_of([], count, width)
                for first in range(-2, count + 2):
                    for last in range(-2, count + 2):
                        if 0 <= first <= last < count:
                            self.assertEqual(longer_range(sheet, first, last), (0, 0))
                            self.assertEqual(longer_family(sheet, first, last, 0), [])
                        else:
                            self.check_error(InvalidDay, longer_range, sheet, first, last)
                            self.check_error(InvalidDay, longer_family, sheet, first, last, 0)
        for first, last in ((0, HUGE), (-HUGE, 0), (-HUGE, HUGE), (HUGE, -HUGE), (HUGE, HUGE)):
            self.check_error(InvalidDay, longer_range, PAPER, first, last)
            self.check_error(InvalidDay, longer_family, PAPER, first, last, 0)


class PaperTest(WrongCalls):
    def test_worked_examples(self):
        # The bounds are fresh(2) = 1 at day 0 and away(0) = 1 at day 1.
        self.assertEqual(longer_paper(PAPER, 0, 2), 0)
        self.assertEqual(longer_paper([[2], [3]], 0, 1), 1)
        self.assertEqual(longer_paper([[3], [2]], 0, 1), 0)
        self.assertEqual(longer_paper([[2], [2]], 0, 1), 0)
        # With width 1 the bound of a day is the sum of the visits of all other days.
        self.assertEqual(longer_paper([[1], [9], [9], [1]], 0, 3), 1)
        self.assertEqual(longer_paper([[9], [1], [1], [9]], 0, 3), 0)
        self.assertEqual(longer_paper([[1], [2], [9], [8], [1]], 0, 4), 2)
        self.assertEqual(longer_paper([[1], [2], [9], [8], [1]], 1, 4), 2)
        self.assertEqual(longer_paper([[1], [2], [9], [8], [1]], 3, 4), 3)
        self.assertEqual(longer_paper([[1], [1], [1], [9]], 0, 3), 3)
        # Width 2, away(0) = 4, away(1) = 1, fresh(2) = 1, fresh(3) = 2; from day 1 on the bounds are 2 and 1.
        sheet = sheet_of([((0,), 4), ((1,), 1), ((2,), 1), ((3,), 2)], 4, 2)
        self.assertEqual(bounds_by_result(sheet, 0, 3), {0: 3, 1: 6, 2: 5})
        self.assertEqual(longer_paper(sheet, 0, 3), 0)
        self.assertEqual(longer_paper(sheet, 1, 3), 2)

    def test_the_first_and_the_last_day_that_t_can_be(self):
        for count in (2, 5, 30):
            for width in range(1, count):
                sheet = sheet_of([((count - 1,), 9)], count, width)
                self.assertEqual(longer_paper(sheet, 0, count - 1), count - width)
                sheet = sheet_of([((0,), 9)], count, width)
                self.assertEqual(longer_paper(sheet, 0, count - 1), 0)

    def test_the_least_of_several(self):
        self.assertEqual(longer_paper([[0], [0], [0]], 0, 2), 0)
        self.assertEqual(longer_paper([[1], [5], [5], [1], [1], [5]], 0, 5), 1)
        self.assertEqual(longer_paper([[1], [5], [5], [1], [1], [5]], 2, 5), 2)
        self.assertEqual(longer_paper([[1], [5], [5], [1], [1], [5]], 3, 4), 3)
        for width in range(1, 30):
            for first, last in ((0, 29), (0, width), (29 - width, 29)):
                self.assertEqual(longer_paper(sheet_of([], 30, width), first, last), first)

    def test_the_least_day_with_the_sum(self):
        equal = 0
        for sheet in large_cases() + [sheet for sheet, _ in small_cases()]:
            for first, last in longer_stretches(sheet)[::2] + longer_stretches(sheet)[-1:]:
                bounds = bounds_by_result(sheet, first, last)
                least, greatest = longer_range(sheet, first, last)
                day = longer_paper(sheet, first, last)
                self.assertIs(type(day), int)
                self.assertEqual(bounds[day], greatest - least)
                self.assertEqual(day, min(t for t in bounds if bounds[t] == min(bounds.values())))
                equal += list(bounds.values()).count(min(bounds.values())) > 1
        self.assertGreater(equal, 100)

    def test_wrong_sheets(self):
        for first, last in ((0, 1), (0, 0), (1, 0), (0, 30)):
            self.check_wrong_sheets(longer_paper, first, last)

    def test_told_stretches_and_wrong_days(self):
        for count in (1, 2, 5, 30):
            for width in widths(count):
                sheet = sheet_of([], count, width)
                for first in range(-2, count + 2):
                    for last in range(-2, count + 2):
                        if 0 <= first and last < count and last - first >= width:
                            self.assertEqual(longer_paper(sheet, first, last), first)
                        else:
                            self.check_error(InvalidDay, longer_paper, sheet, first, last)
        self.check_error(InvalidDay, longer_paper, PAPER, 0, HUGE)
        self.check_error(InvalidDay, longer_paper, PAPER, -HUGE, 2)


class FamilyTest(WrongCalls):
    def check_family(self, sheet, first, last, number):
        family = longer_family(sheet, first, last, number)
        self.assertIs(has_sheet(sheet, family), True)
        self.assertEqual(unlike(family, first, last), number)

    def check_outside(self, sheet, first, last):
        least, greatest = longer_range(sheet, first, last)
        for number in (least - 1, greatest + 1, -HUGE, -1, greatest + HUGE):
            self.check_error(InvalidNumber, longer_family, sheet, first, last, number)

    def test_worked_examples(self):
        self.assertEqual(longer_family([[2], [3]], 0, 1, 5), [((0,), 2), ((1,), 3)])
        self.assertEqual(longer_family([[2], [3]], 0, 1, 4), [((0,), 1), ((0, 1), 1), ((1,), 2)])
        self.assertEqual(longer_family([[2], [3]], 0, 1, 3), [((0, 1), 2), ((1,), 1)])
        self.assertEqual(longer_family([[2], [2, 2]], 0, 1, 2), [((0, 1), 2)])

    def test_each_number_of_small_sheets(self):
        for sheet, own in small_cases():
            for first, last in stretches(sheet):
                least, greatest = longer_range(sheet, first, last)
                for number in range(least, greatest + 1):
                    self.check_family(sheet, first, last, number)
                    self.assertIn(longer_family(sheet, first, last, number), own)
                self.check_outside(sheet, first, last)

    def test_numbers_of_large_sheets(self):
        rng = random.Random(9)
        for sheet in large_cases():
            found = longer_stretches(sheet)
            for first, last in found[-1:] + rng.sample(found, min(4, len(found))):
                least, greatest = longer_range(sheet, first, last)
                for number in {least, (least + greatest) // 2, greatest, rng.randint(least, greatest)}:
                    self.check_family(sheet, first, last, number)
                self.check_outside(sheet, first, last)

    def test_told_stretches(self):
        rng = random.Random(10)
        for sheet in large_cases() + [PAPER, [[3]]]:
            for _ in range(3):
                first = rng.randrange(len(sheet))
                last = min(first + rng.randrange(len(sheet[-1])), len(sheet) - 1)
                self.check_family(sheet, first, last, unlike_of(sheet, first, last))
                self.check_outside(sheet, first, last)

    def test_the_whole_of_30_days(self):
        for width in (1, 7, 15, 29, 30):
            sheet = sheet_of([((day,), day + 1) for day in range(30)], 30, width)
            least, greatest = longer_range(sheet, 0, 29)
            for number in range(least, greatest + 1, 29):
                self.check_family(sheet, 0, 29, number)
            self.check_family(sheet, 0, 29, greatest)
            self.check_outside(sheet, 0, 29)

    def test_wrong_sheets(self):
        for first, last, number in ((0, 0, 1), (0, 1, 0), (1, 0, 0), (0, 30, -1)):
            self.check_wrong_sheets(longer_family, first, last, number)


if __name__ == "__main__":
    unittest.main()
