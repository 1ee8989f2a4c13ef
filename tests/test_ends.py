import unittest

from facesagain.errors import InvalidDay
from facesagain.ends import again_range, all_range, gone_range, new_range, next_range
from facesagain.families import joined_family
from facesagain.gaps import away_of, fresh_of, gap_of
from facesagain.sheets import sheet_of, visits_of
from tests.samples import HUGE, PAPER, families, large_cases, possible_sheets, small_cases, widths
from tests.wrong import WrongCalls


def new_in(family, day):
    return sum(many for pattern, many in family if pattern[0] == day)


def again_in(family, day):
    return sum(many for pattern, many in family if pattern[0] < day and day in pattern)


def gone_in(family, day):
    return sum(many for pattern, many in family if pattern[-1] == day)


def next_in(family, first, second):
    return sum(many for pattern, many in family if (first, second) in zip(pattern, pattern[1:]))


def all_in(family):
    return sum(many for _, many in family)


BY_DAY = ((new_range, new_in), (again_range, again_in), (gone_range, gone_in))


def joins_to(sheet, day):
    """As many joins to one day as there can be."""
    left = fresh_of(sheet, day)
    joins = []
    for first in range(day - len(sheet[-1]) + 1):
        number = min(left, away_of(sheet, first))
        if number > 0:
            joins.append((first, day, number))
            left -= number
    return joins


def joins_from(sheet, day):
    """As many joins from one day as there can be."""
    left = away_of(sheet, day)
    joins = []
    for second in range(day + len(sheet[-1]), len(sheet)):
        number = min(left, fresh_of(sheet, second))
        if number > 0:
            joins.append((day, second, number))
            left -= number
    return joins


class SmallTest(WrongCalls):
    def check_numbers(self, answer, numbers):
        self.assertIs(type(answer), tuple)
        self.assertEqual(answer, (min(numbers), max(numbers)))
        self.assertEqual(set(numbers), set(range(min(numbers), max(numbers) + 1)))

    def test_by_day(self):
        wide = set()
        for sheet, own in small_cases():
            for day in range(len(sheet)):
                for call, count in BY_DAY:
                    numbers = {count(family, day) for family in own}
                    self.check_numbers(call(sheet, day), numbers)
                    if len(numbers) > 2:
                        wide.add((call.__name__, len(sheet), len(sheet[-1])))
        for call, _ in BY_DAY:
            self.assertLessEqual({(call.__name__, 3, 1), (call.__name__, 4, 2)}, wide)

    def test_next(self):
        wide = 0
        for sheet, own in small_cases():
            for first in range(len(sheet)):
                for second in range(first + 1, len(sheet)):
                    numbers = {next_in(family, first, second) for family in own}
                    self.check_numbers(next_range(sheet, first, second), numbers)
                    wide += len(numbers) > 2
        self.assertGreater(wide, 10)

    def test_all(self):
        for sheet, own in small_cases():
            self.check_numbers(all_range(sheet), {all_in(family) for family in own})


class WorkedTest(unittest.TestCase):
    def test_paper(self):
        self.assertEqual([new_range(PAPER, day) for day in range(3)], [(3, 3), (1, 1), (0, 1)])
        self.assertEqual([again_range(PAPER, day) for day in range(3)], [(0, 0), (2, 2), (1, 2)])
        self.assertEqual([gone_range(PAPER, day) for day in range(3)], [(0, 1), (2, 2), (2, 2)])
        self.assertEqual(next_range(PAPER, 0, 1), (2, 2))
        self.assertEqual(next_range(PAPER, 1, 2), (1, 1))
        self.assertEqual(next_range(PAPER, 0, 2), (0, 1))
        self.assertEqual(all_range(PAPER), (4, 5))

    def test_one_day(self):
        for number in (0, 1, HUGE):
            self.assertEqual(new_range([[number]], 0), (number, number))
            self.assertEqual(again_range([[number]], 0), (0, 0))
            self.assertEqual(gone_range([[number]], 0), (number, number))
            self.assertEqual(all_range([[number]]), (number, number))

    def test_width_1(self):
        sheet = [[2], [5], [4], [1]]
        self.assertEqual([new_range(sheet, day) for day in range(4)], [(2, 2), (3, 5), (0, 4), (0, 1)])
        self.assertEqual([again_range(sheet, day) for day in range(4)], [(0, 0), (0, 2), (0, 4), (0, 1)])
        self.assertEqual([gone_range(sheet, day) for day in range(4)], [(0, 2), (0, 5), (3, 4), (1, 1)])
        self.assertEqual(next_range(sheet, 0, 1), (0, 2))
        self.assertEqual(next_range(sheet, 1, 2), (0, 4))
        self.assertEqual(next_range(sheet, 1, 3), (0, 1))
        self.assertEqual(all_range(sheet), (5, 12))


class LargeTest(unittest.TestCase):
    def test_a_family_is_within(self):
        for sheet, family, count, _ in possible_sheets():
            for day in range(count):
                for call, number in BY_DAY:
                    least, greatest = call(sheet, day)
                    self.assertTrue(least <= number(family, day) <= greatest)
                for second in range(day + 1, count, 3):
                    least, greatest = next_range(sheet, day, second)
                    self.assertTrue(least <= next_in(family, day, second) <= greatest)
            least, greatest = all_range(sheet)
            self.assertTrue(least <= all_in(family) <= greatest)

    def test_no_joins(self):
        for sheet in large_cases():
            family = joined_family(sheet, [])
            for day in range(len(sheet)):
                self.assertEqual(new_range(sheet, day)[1], new_in(family, day))
                self.assertEqual(again_range(sheet, day)[0], again_in(family, day))
                self.assertEqual(gone_range(sheet, day)[1], gone_in(family, day))
            self.assertEqual(all_range(sheet)[1], all_in(family))

    def test_all_joins_of_one_day(self):
        for sheet in large_cases():
            for day in range(0, len(sheet), 4):
                family = joined_family(sheet, joins_to(sheet, day))
                self.assertEqual(new_range(sheet, day)[0], new_in(family, day))
                self.assertEqual(again_range(sheet, day)[1], again_in(family, day))
                family = joined_family(sheet, joins_from(sheet, day))
                self.assertEqual(gone_range(sheet, day)[0], gone_in(family, day))

    def test_next_days(self):
        for sheet in large_cases():
            for first in range(len(sheet)):
                for second in range(first + 1, len(sheet)):
                    if second - first < len(sheet[-1]):
                        gap = gap_of(sheet, first, second)
                        self.assertEqual(next_range(sheet, first, second), (gap, gap))
                    else:
                        most = min(away_of(sheet, first), fresh_of(sheet, second))
                        self.assertEqual(next_range(sheet, first, second), (0, most))

    def test_new_and_again_are_the_visits(self):
        for sheet in large_cases():
            for day in range(len(sheet)):
                least, greatest = again_range(sheet, day)
                visits = visits_of(sheet, day)
                self.assertEqual(new_range(sheet, day), (visits - greatest, visits - least))

    def test_full_sheets(self):
        for family, count in families():
            sheet = sheet_of(family, count, count)
            for day in range(count):
                for call, number in BY_DAY:
                    self.assertEqual(call(sheet, day), (number(family, day), number(family, day)))
                for second in range(day + 1, count, 4):
                    number = next_in(family, day, second)
                    self.assertEqual(next_range(sheet, day, second), (number, number))
            self.assertEqual(all_range(sheet), (all_in(family), all_in(family)))

    def test_30_days_with_great_numbers(self):
        sheet = [[HUGE] for _ in range(30)]
        self.assertEqual(all_range(sheet), (HUGE, 30 * HUGE))
        for day in range(30):
            self.assertEqual(new_range(sheet, day), (HUGE if day == 0 else 0, HUGE))
            self.assertEqual(again_range(sheet, day), (0, 0 if day == 0 else HUGE))
            self.assertEqual(gone_range(sheet, day), (HUGE if day == 29 else 0, HUGE))
        self.assertEqual(next_range(sheet, 0, 29), (0, HUGE))

    def test_days_at_the_width(self):
        for count in (5, 30):
            for width in range(1, count):
                sheet = sheet_of([((day,), 4 + day % 3) for day in range(count)], count, width)
                for day in range(count):
                    visits = 4 + day % 3
                    self.assertEqual(new_range(sheet, day) == (visits, visits), day < width)
                    self.assertEqual(again_range(sheet, day) == (0, 0), day < width)
                    self.assertEqual(gone_range(sheet, day) == (visits, visits), day + width >= count)
                    for second in range(day + 1, count):
                        self.assertEqual(next_range(sheet, day, second) == (0, 0), second - day < width)


class WrongTest(WrongCalls):
    def test_wrong_sheets(self):
        for day in (0, 1, -1, 30):
            for call, _ in BY_DAY:
                self.check_wrong_sheets(call, day)
            self.check_wrong_sheets(next_range, 0, day)
            self.check_wrong_sheets(next_range, day, 1)
        self.check_wrong_sheets(all_range)

    def test_wrong_days(self):
        for sheet in ([[4]], PAPER, sheet_of([], 30, 30), sheet_of([], 30, 1)):
            for day in (-HUGE, -30, -2, -1, len(sheet), len(sheet) + 1, HUGE):
                for call, _ in BY_DAY:
                    self.check_error(InvalidDay, call, sheet, day)
            for call, _ in BY_DAY:
                for day in (0, len(sheet) - 1):
                    self.assertIs(type(call(sheet, day)), tuple)

    def test_wrong_pairs_of_days(self):
        for count in (1, 2, 5, 30):
            for width in widths(count):
                sheet = sheet_of([], count, width)
                for first in range(-2, count + 2):
                    for second in range(-2, count + 2):
                        if 0 <= first < second < count:
                            self.assertEqual(next_range(sheet, first, second), (0, 0))
                        else:
                            self.check_error(InvalidDay, next_range, sheet, first, second)
        for first, second in ((0, HUGE), (-HUGE, 0), (-HUGE, HUGE), (HUGE, -HUGE), (HUGE, HUGE)):
            self.check_error(InvalidDay, next_range, PAPER, first, second)


if __name__ == "__main__":
    unittest.main()
