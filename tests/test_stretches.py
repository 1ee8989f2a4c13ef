import itertools
import random
import unittest

from facesagain.errors import InvalidDay
from facesagain.gaps import conflict_of
from facesagain.sheets import sheet_of, unlike_of, visits_of
from facesagain.stretches import came_again, common_of
from tests.samples import (
    HUGE, PAPER, families, impossible_sheets, possible_sheets, random_family, sheet_by_hand, small_cases, widths,
)
from tests.wrong import WrongCalls

FAMILY = [((0,), 1), ((0, 1), 2), ((0, 2), 4), ((0, 3), 64), ((1, 2), 8), ((2,), 16), ((3,), 32)]


def common_in(family, first, last, second, end):
    """How many visitors came in both stretches, by looking at each pattern."""
    return sum(
        many for pattern, many in family
        if any(first <= day <= last for day in pattern) and any(second <= day <= end for day in pattern)
    )


def again_in(family, day, days):
    """How many visitors of a day came again within the next days, by looking at each pattern."""
    return sum(
        many for pattern, many in family if day in pattern and any(day < later <= day + days for later in pattern)
    )


def is_named(count, width, first, last, second, end):
    """Whether these are two stretches as point 11 names them, of a sheet of so many days and of this width."""
    return (
        all(0 <= day < count for day in (first, last, second, end))
        and first <= second <= last + 1 and first <= last <= end and second <= end
        and last - first < width and end - second < width and end - first < width
    )


def drawn_stretches(rng, count, width):
    """Stretches of each kind that point 11 names, of a sheet of so many days and of this width."""
    length = rng.randint(1, width)
    first = rng.randint(0, count - length)
    end = first + length - 1
    last = rng.randint(first, end)
    found = [
        (first, last, rng.randint(first, min(last + 1, end)), end),
        (first, end, first, end),
        (first, end, end, end),
        (first, first, first, end),
        (first, end, rng.randint(first, end), end),
        (first, last, first, end),
        (last, last, last, last),
    ]
    if length > 1:
        last = rng.randint(first, end - 1)
        found += [(first, last, last + 1, end), (first, last, last, end), (first, first, first + 1, end)]
    return found


class CommonTest(WrongCalls):
    def test_worked_examples(self):
        sheet = sheet_of(FAMILY, 4, 3)
        self.assertEqual(common_of(sheet, 0, 0, 1, 1), 2)
        self.assertEqual(common_of(sheet, 0, 0, 1, 2), 6)
        self.assertEqual(common_of(sheet, 0, 1, 2, 2), 12)
        self.assertEqual(common_of(sheet, 0, 1, 1, 2), 14)
        self.assertEqual(common_of(sheet, 1, 1, 2, 3), 8)
        self.assertEqual(common_of(sheet, 0, 2, 1, 2), 30)
        self.assertEqual(common_of(sheet, 0, 2, 0, 2), 95)
        self.assertEqual(common_of(sheet, 3, 3, 3, 3), 96)
        self.assertEqual(common_of(PAPER, 0, 0, 1, 1), 2)
        self.assertEqual(common_of([[HUGE], [HUGE, HUGE]], 0, 0, 1, 1), HUGE)

    def test_families_of_1_to_30_days_of_each_width(self):
        rng = random.Random(21)
        for count in range(1, 31):
            for most in (3, HUGE):
                family = random_family(rng, count, 25, most)
                whole = sheet_by_hand(family, count, count)
                for width in range(1, count + 1):
                    sheet = [row[:width] for row in whole]
                    for told in drawn_stretches(rng, count, width):
                        self.assertTrue(is_named(count, width, *told))
                        self.assertEqual(common_of(sheet, *told), common_in(family, *told), (sheet, told))

    def test_all_stretches_of_small_sheets(self):
        rng = random.Random(22)
        right = 0
        for count in range(1, 6):
            family = random_family(rng, count, 9, 9)
            for width in range(1, count + 1):
                sheet = sheet_by_hand(family, count, width)
                for told in itertools.product(range(-1, count + 1), repeat=4):
                    if is_named(count, width, *told):
                        self.assertEqual(common_of(sheet, *told), common_in(family, *told))
                        right += 1
                    else:
                        self.check_error(InvalidDay, common_of, sheet, *told)
        self.assertGreater(right, 200)

    def test_it_is_told(self):
        for sheet, own in small_cases():
            for told in itertools.product(range(len(sheet)), repeat=4):
                if is_named(len(sheet), len(sheet[-1]), *told):
                    self.assertEqual({common_of(sheet, *told)}, {common_in(family, *told) for family in own})

    def test_one_within_the_other_and_both_the_same(self):
        for sheet, _, count, width in possible_sheets():
            first = count // 3
            end = min(first + width, count) - 1
            for day in range(first, end + 1):
                self.assertEqual(common_of(sheet, first, end, day, end), unlike_of(sheet, day, end))
                self.assertEqual(common_of(sheet, first, day, first, end), unlike_of(sheet, first, day))
                self.assertEqual(common_of(sheet, day, day, day, day), visits_of(sheet, day))
            self.assertEqual(common_of(sheet, first, end, first, end), unlike_of(sheet, first, end))

    def test_wrong_sheets(self):
        for told in ((0, 0, 0, 0), (0, 0, 1, 1), (1, 0, 0, 0), (0, 0, 0, 30)):
            self.check_wrong_sheets(common_of, *told)

    def test_each_wrong_order(self):
        sheet = sheet_of([((day,), 1) for day in range(9)], 9, 9)
        self.assertEqual(common_of(sheet, 2, 4, 3, 6), 2)
        for told in (
            (4, 4, 3, 6), (4, 6, 2, 6), (2, 4, 6, 6), (2, 4, 6, 8), (2, 2, 4, 6), (5, 4, 5, 6), (4, 3, 4, 6),
            (2, 4, 3, 3), (2, 6, 3, 5), (2, 8, 3, 4), (2, 4, 5, 4), (2, 4, 4, 3), (8, 2, 3, 0), (6, 4, 3, 2),
        ):
            self.check_error(InvalidDay, common_of, sheet, *told)

    def test_days_beside_the_sheet(self):
        sheet = sheet_of([((day,), 1) for day in range(9)], 9, 9)
        for day in (-HUGE, -9, -1, 9, 10, HUGE):
            for told in itertools.product((3, day), repeat=4):
                if day in told:
                    self.check_error(InvalidDay, common_of, sheet, *told)

    def test_stretches_that_are_not_told(self):
        for count, width in ((2, 1), (3, 1), (4, 2), (9, 4), (30, 7), (30, 29)):
            sheet = sheet_of([((day,), 1) for day in range(count)], count, width)
            for first in range(count - width):
                end = first + width
                self.assertEqual(common_of(sheet, first, end - 1, first, end - 1), width)
                self.assertEqual(common_of(sheet, first + 1, end, first + 1, end), width)
                # The first stretch, the second one, both, or first to end alone is too long.
                for told in (
                    (first, end, end, end), (first, first, first, end), (first, end, first, end),
                    (first, end - 1, end, end), (first, end - 1, first + 1, end), (first, first, first + 1, end),
                ):
                    self.check_error(InvalidDay, common_of, sheet, *told)

    def test_wrong_days_come_ahead_of_impossible_sheets(self):
        for sheet in impossible_sheets():
            count, width = len(sheet), len(sheet[-1])
            wrong = [(1, 0, 0, 0), (0, 0, 2, 2), (0, 1, 0, 0), (0, 0, 0, count), (-1, 0, 0, 0), (0, width, 0, width)]
            for told in wrong:
                self.check_error(InvalidDay, common_of, sheet, *told)
            self.check_impossible(sheet, common_of, sheet, 0, 0, 0, 0)
            self.check_impossible(sheet, common_of, sheet, 0, width - 1, width - 1, width - 1)


class CameAgainTest(WrongCalls):
    def test_worked_examples(self):
        sheet = sheet_of(FAMILY, 4, 4)
        self.assertEqual(came_again(sheet, 0), [2, 6, 70])
        self.assertEqual(came_again(sheet, 1), [8, 8])
        self.assertEqual(came_again(sheet, 2), [0])
        self.assertEqual(came_again(sheet, 3), [])
        self.assertEqual(came_again([row[:3] for row in sheet], 0), [2, 6])
        self.assertEqual(came_again(PAPER, 1), [1])

    def test_families_of_1_to_30_days_of_each_width(self):
        rng = random.Random(23)
        for count in range(1, 31):
            family = random_family(rng, count, 25, rng.choice([3, HUGE]))
            whole = sheet_by_hand(family, count, count)
            for day in range(count):
                expected = [again_in(family, day, days) for days in range(1, count - day)]
                for width in range(1, count + 1):
                    sheet = [row[:width] for row in whole]
                    self.assertEqual(came_again(sheet, day), expected[:width - 1])

    def test_the_last_day_and_width_1(self):
        for family, count in families():
            for width in widths(count):
                self.assertEqual(came_again(sheet_of(family, count, width), count - 1), [])
            for day in range(count):
                self.assertEqual(came_again(sheet_of(family, count, 1), day), [])

    def test_the_list_is_new(self):
        for day in range(3):
            answer = came_again(PAPER, day)
            expected = list(answer)
            self.assertIs(type(answer), list)
            answer.append(None)
            self.assertIsNot(came_again(PAPER, day), answer)
            self.assertEqual(came_again(PAPER, day), expected)

    def test_wrong_sheets(self):
        for day in (0, 1, -1, 30):
            self.check_wrong_sheets(came_again, day)

    def test_wrong_days(self):
        for sheet in ([[4]], PAPER, sheet_of([], 30, 30), sheet_of([], 30, 1), impossible_sheets()[0]):
            for day in (-HUGE, -1, len(sheet), len(sheet) + 1, HUGE):
                self.check_error(InvalidDay, came_again, sheet, day)
            if conflict_of(sheet) is None:
                self.assertEqual(came_again(sheet, len(sheet) - 1), [])


if __name__ == "__main__":
    unittest.main()
