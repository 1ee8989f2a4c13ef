import unittest

from facesagain.errors import InvalidCount, InvalidDay, InvalidFamily, InvalidWidth
from facesagain.sheets import days_in, narrowed_sheet, sheet_of, unlike_of, visits_of, width_in
from tests.samples import (
    HUGE, PAPER, any_sheets, families, many_groups, possible_sheets, sheet_by_hand, unlike, widths, wrong_families,
)
from tests.wrong import WrongCalls

OUTSIDE = [-HUGE, -31, -2, -1, 0, 31, 32, 1000, HUGE]


class SheetOfTest(WrongCalls):
    def test_worked_examples(self):
        family = [((0,), 1), ((0, 1), 2), ((1, 2), 1), ((2,), 1)]
        self.assertEqual(sheet_of(family, 3, 2), PAPER)
        self.assertEqual(sheet_of(family, 3, 1), [[3], [3], [2]])
        self.assertEqual(sheet_of(family, 3, 3), [[3], [3, 4], [2, 4, 5]])
        self.assertEqual(sheet_of(family, 5, 4), [[3], [3, 4], [2, 4, 5], [0, 2, 4, 5], [0, 0, 2, 4]])
        self.assertEqual(sheet_of([((1, 3), 5)], 4, 3), [[0], [5, 5], [0, 5, 5], [5, 5, 5]])

    def test_empty_family(self):
        self.assertEqual(sheet_of([], 1, 1), [[0]])
        self.assertEqual(sheet_of([], 3, 2), [[0], [0, 0], [0, 0]])
        self.assertEqual(sheet_of([], 30, 30), [[0] * (day + 1) for day in range(30)])

    def test_each_number_by_counting(self):
        for family, count in families():
            for width in widths(count):
                with self.subTest(family=family, count=count, width=width):
                    sheet = sheet_of(family, count, width)
                    self.assertEqual(sheet, sheet_by_hand(family, count, width))
                    self.assertEqual({type(x) for row in sheet for x in row}, {int})

    def test_days_without_visitors(self):
        family = [((2, 6), 3), ((6,), 4)]
        for count in range(7, 12):
            for width in range(1, count + 1):
                self.assertEqual(sheet_of(family, count, width), sheet_by_hand(family, count, width))

    def test_the_most_patterns(self):
        family = many_groups(2000)
        self.assertEqual(len(family), 2000)
        self.assertEqual(sheet_of(family, 11, 7), sheet_by_hand(family, 11, 7))
        self.assertEqual(sheet_of(family, 30, 30)[29][29], sum(many for _, many in family))

    def test_long_numbers_are_exact(self):
        family = [((0,), HUGE), ((0, 1), HUGE), ((1,), HUGE)]
        self.assertEqual(sheet_of(family, 2, 2), [[2 * HUGE], [2 * HUGE, 3 * HUGE]])

    def test_wrong_families(self):
        for family in wrong_families():
            self.check_error(InvalidFamily, sheet_of, family, 30, 30)
            self.check_error(InvalidFamily, sheet_of, family, 11, 1)

    def test_wrong_counts(self):
        for count in OUTSIDE:
            self.check_error(InvalidCount, sheet_of, [], count, 1)
            self.check_error(InvalidCount, sheet_of, [((0,), 1)], count, 1)

    def test_wrong_widths(self):
        for count in (1, 2, 29, 30):
            for width in OUTSIDE + [count + 1]:
                self.check_error(InvalidWidth, sheet_of, [], count, width)

    def test_limits_just_inside(self):
        for count, width in ((1, 1), (30, 1), (30, 30), (29, 29)):
            self.assertEqual(len(sheet_of([], count, width)), count)
        self.assertEqual(sheet_of([((29,), 1)], 30, 1)[29], [1])

    def test_days_not_below_count(self):
        for count, day in ((1, 1), (1, 29), (5, 5), (5, 6), (29, 29)):
            self.check_error(InvalidFamily, sheet_of, [((day,), 1)], count, 1)
            self.check_error(InvalidFamily, sheet_of, [((0, day), 1)], count, count)
            self.check_error(InvalidFamily, sheet_of, [((0,), 1), ((0, day), 1)], count, count)
            self.assertEqual(len(sheet_of([((0, day), 1)], day + 1, 1)), day + 1)

    def test_the_first_wrong_argument_decides(self):
        self.check_error(InvalidFamily, sheet_of, [((30,), 1)], 0, 0)
        self.check_error(InvalidFamily, sheet_of, None, 31, 31)
        self.check_error(InvalidFamily, sheet_of, [((0,), 0)], 5, 6)
        self.check_error(InvalidCount, sheet_of, [], 0, 0)
        self.check_error(InvalidCount, sheet_of, [], 31, 31)
        self.check_error(InvalidCount, sheet_of, [((29,), 1)], 0, 1)
        self.check_error(InvalidCount, sheet_of, [((29,), 1)], 31, 32)
        self.check_error(InvalidWidth, sheet_of, [((29,), 1)], 5, 6)
        self.check_error(InvalidWidth, sheet_of, [((5,), 1)], 5, 0)


class ReadingTest(WrongCalls):
    def test_days_and_width(self):
        for sheet, _, count, width in possible_sheets():
            self.assertEqual(days_in(sheet), count)
            self.assertEqual(width_in(sheet), width)
        for sheet in any_sheets():
            self.assertEqual(days_in(sheet), len(sheet))
            self.assertEqual(width_in(sheet), max(len(row) for row in sheet))

    def test_numbers_of_families(self):
        for sheet, family, count, width in possible_sheets():
            for first in range(count):
                self.assertEqual(visits_of(sheet, first), unlike(family, first, first))
                for last in range(first, min(first + width, count)):
                    self.assertEqual(unlike_of(sheet, first, last), unlike(family, first, last))

    def test_numbers_of_any_sheets(self):
        for sheet in any_sheets():
            for day, row in enumerate(sheet):
                self.assertEqual(visits_of(sheet, day), row[0])
                self.assertEqual([unlike_of(sheet, day - k, day) for k in range(len(row))], row)

    def test_wrong_sheets(self):
        self.check_wrong_sheets(days_in)
        self.check_wrong_sheets(width_in)
        for day in (0, -1, 30):
            self.check_wrong_sheets(visits_of, day)
            self.check_wrong_sheets(unlike_of, day, 0)
            self.check_wrong_sheets(unlike_of, 0, day)
            self.check_wrong_sheets(narrowed_sheet, day)
        self.check_wrong_sheets(narrowed_sheet, 1)

    def test_wrong_days(self):
        for sheet in ([[4]], PAPER, sheet_of([], 30, 30), sheet_of([], 30, 1), sheet_of([], 6, 6)):
            for day in (-HUGE, -2, -1, len(sheet), len(sheet) + 1, HUGE):
                self.check_error(InvalidDay, visits_of, sheet, day)
                self.check_error(InvalidDay, unlike_of, sheet, day, day)
                self.check_error(InvalidDay, unlike_of, sheet, 0, day)
                self.check_error(InvalidDay, unlike_of, sheet, day, len(sheet) - 1)

    def test_stretches_that_are_not_told(self):
        for count in (1, 2, 3, 6, 30):
            for width in widths(count):
                sheet = sheet_of([], count, width)
                for first in range(-2, count + 2):
                    for last in range(-2, count + 2):
                        if 0 <= first <= last < count and last - first < width:
                            self.assertEqual(unlike_of(sheet, first, last), 0)
                        else:
                            self.check_error(InvalidDay, unlike_of, sheet, first, last)


class NarrowedTest(WrongCalls):
    def test_sheets_of_families(self):
        for sheet, family, count, width in possible_sheets():
            for narrow in range(1, width + 1):
                self.assertEqual(narrowed_sheet(sheet, narrow), sheet_by_hand(family, count, narrow))

    def test_any_sheets(self):
        self.assertEqual(narrowed_sheet([[1], [0, 0], [7, 2, 9]], 2), [[1], [0, 0], [7, 2]])
        for sheet in any_sheets():
            for narrow in range(1, len(sheet[-1]) + 1):
                expected = [[row[k] for k in range(min(narrow, len(row)))] for row in sheet]
                self.assertEqual(narrowed_sheet(sheet, narrow), expected)

    def test_wrong_widths(self):
        for sheet in ([[4]], PAPER, sheet_of([], 30, 30), sheet_of([], 30, 1), sheet_of([], 6, 3)):
            for width in (-HUGE, -1, 0, len(sheet[-1]) + 1, 31, HUGE):
                self.check_error(InvalidWidth, narrowed_sheet, sheet, width)


if __name__ == "__main__":
    unittest.main()
