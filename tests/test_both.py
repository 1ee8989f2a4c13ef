import itertools
import random
import unittest

from facesagain.both import both_family, both_range
from facesagain.errors import InvalidDay, InvalidNumber
from facesagain.gaps import away_of, fresh_of, gap_of
from facesagain.sheets import sheet_of, unlike_of, visits_of
from facesagain.stretches import common_of
from tests.samples import (
    HUGE, PAPER, families, impossible_sheets, large_cases, possible_sheets, random_family, small_cases, widths,
)
from tests.wrong import WrongCalls


def both_in(family, first, second):
    return sum(many for pattern, many in family if first in pattern and second in pattern)


def pairs(sheet):
    return list(itertools.combinations(range(len(sheet)), 2))


def gaps_by_days(sheet):
    width = len(sheet[-1])
    return {(a, b): gap_of(sheet, a, b) if b - a < width else 0 for a, b in pairs(sheet)}


def range_by_cuts(sheet, first, second):
    """The range by R1 to R3: the tightest of the bounds that every set of days between sets to all families.

    Of the visitors of day first, no more get to the second day than leave a set of days that holds the first one:
    by a gap, or on a fresh day of those who were away. And no more keep clear of the second day than leave the set
    past it, or away.
    """
    count, width = len(sheet), len(sheet[-1])
    gaps = gaps_by_days(sheet)
    away = [away_of(sheet, day) for day in range(count)]
    fresh = [fresh_of(sheet, day) for day in range(count)]
    clear, most = [], []
    between = range(first + 1, second)
    for length in range(len(between) + 1):
        for chosen in itertools.combinations(between, length):
            held = (first,) + chosen
            out = [day for day in range(first, count) if day not in held]
            clear.append(sum(away[a] + sum(gaps[a, b] for b in out if b > a and b != second) for a in held))
            by_gaps = sum(gaps[a, b] for a in held for b in out if a < b <= second)
            # Whoever is away may come again until some day on which that is cut off, or is cut off on each fresh day.
            for until in range(min(first + width, second + 1), second + 2):
                by_away = sum(away[a] for a in held if a + width < until)
                by_fresh = sum(fresh[b] for b in out if until <= b <= second)
                most.append(by_gaps + by_away + by_fresh)
    return visits_of(sheet, first) - min(clear), min(most)


def turned(sheet):
    """The sheet of the same visitors with the days in the other order."""
    count, width = len(sheet), len(sheet[-1])
    return [
        [unlike_of(sheet, count - 1 - day, count - 1 - day + back) for back in range(min(day + 1, width))]
        for day in range(count)
    ]


class BothTest(WrongCalls):
    def check_with(self, sheet, first, second, number):
        family = both_family(sheet, first, second, number)
        self.check_family(sheet, family)
        self.assertEqual(both_in(family, first, second), number)

    def check_some(self, rng, sheet, first, second):
        """Families for the least, the greatest and numbers between them, and none for those beside them."""
        least, greatest = both_range(sheet, first, second)
        for number in {least, (least + greatest) // 2, greatest, rng.randint(least, greatest)}:
            self.check_with(sheet, first, second, number)
        self.check_outside(sheet, first, second)

    def check_outside(self, sheet, first, second):
        least, greatest = both_range(sheet, first, second)
        for number in (least - 1, greatest + 1, -1, -HUGE, greatest + HUGE):
            self.check_error(InvalidNumber, both_family, sheet, first, second, number)


class RangeTest(BothTest):
    def test_worked_examples(self):
        self.assertEqual([both_range(PAPER, 0, 1), both_range(PAPER, 0, 2), both_range(PAPER, 1, 2)],
                         [(2, 2), (0, 2), (1, 1)])
        self.assertEqual(both_range([[2], [5]], 0, 1), (0, 2))
        self.assertEqual(both_range([[4], [5, 6]], 0, 1), (3, 3))
        # 2 of day 0 come again on day 2 at once; 3 do on day 1, from where 3 of 4 go on to day 2.
        sheet = sheet_of([((0, 1), 1), ((0, 1, 2), 2), ((0, 2), 2), ((1, 2), 1)], 3, 3)
        self.assertEqual(both_range(sheet, 0, 2), (4, 5))
        # 3 of day 0 are away, and on day 2 there are 2 who did not come on day 1.
        self.assertEqual(both_range(sheet_of([((0,), 3), ((1,), 1), ((2,), 2)], 3, 2), 0, 2), (0, 2))
        # Nobody of day 0 comes on day 1, but who came on day 2 can be one of day 0, and go on to day 3.
        self.assertEqual(both_range(sheet_of([((0,), 3), ((2,), 2), ((2, 3), 2)], 4, 2), 0, 3), (0, 2))

    def test_small_sheets_by_all_their_families(self):
        seen = set()
        for sheet, own in small_cases():
            width = len(sheet[-1])
            for first, second in pairs(sheet):
                numbers = {both_in(family, first, second) for family in own}
                answer = both_range(sheet, first, second)
                self.assertIs(type(answer), tuple)
                self.assertEqual(answer, (min(numbers), max(numbers)), (sheet, first, second))
                self.assertEqual(numbers, set(range(min(numbers), max(numbers) + 1)))
                seen.add((len(sheet), second - first < width, len(numbers) > 1, min(numbers) > 0))
        self.assertLessEqual({(3, True, True, True), (4, True, True, True), (4, False, True, False)}, seen)

    def test_up_to_ten_days_by_all_bounds(self):
        rng = random.Random(41)
        ends = []
        for count in (4, 6, 8, 9, 10):
            for groups, most in ((8, 3), (30, 9), (60, HUGE)):
                family = random_family(rng, count, groups, most)
                for width in sorted({1, 2, 3, count // 2, count - 1, count}):
                    sheet = sheet_of(family, count, width)
                    for first, second in {(0, count - 1), tuple(sorted(rng.sample(range(count), 2)))}:
                        ends.append(both_range(sheet, first, second))
                        self.assertEqual(ends[-1], range_by_cuts(sheet, first, second), (sheet, first, second))
        self.assertGreater(len([least for least, greatest in ends if 0 < least < greatest]), 10)
        self.assertGreater(len([greatest for _, greatest in ends if greatest > 10 ** 29]), 20)

    def test_more_days_by_all_bounds(self):
        rng = random.Random(42)
        for width in (2, 5, 9, 13, 30):
            sheet = sheet_of(random_family(rng, 30, 200, HUGE), 30, width)
            for second in (10, 20, 29):
                first = second - rng.randint(6, 10)
                self.assertEqual(both_range(sheet, first, second), range_by_cuts(sheet, first, second))

    def test_days_in_the_other_order(self):
        for sheet in large_cases():
            count = len(sheet)
            other = turned(sheet)
            for first, second in pairs(sheet)[::5] + [(0, count - 1)]:
                answer = both_range(other, count - 1 - second, count - 1 - first)
                self.assertEqual(both_range(sheet, first, second), answer)

    def test_a_family_is_within(self):
        for sheet, family, count, _ in possible_sheets():
            for first, second in pairs(sheet)[::7]:
                least, greatest = both_range(sheet, first, second)
                self.assertTrue(least <= both_in(family, first, second) <= greatest)

    def test_neighbouring_days(self):
        for sheet, family, count, width in possible_sheets():
            for day in range(count - 1):
                if width > 1:
                    number = common_of(sheet, day, day, day + 1, day + 1)
                    self.assertEqual(both_range(sheet, day, day + 1), (number, number))
                    self.assertEqual(number, both_in(family, day, day + 1))

    def test_width_1(self):
        for family, count in families():
            sheet = sheet_of(family, count, 1)
            for first, second in pairs(sheet)[::3]:
                most = min(visits_of(sheet, first), visits_of(sheet, second))
                self.assertEqual(both_range(sheet, first, second), (0, most))

    def test_days_the_width_or_more_apart(self):
        for count, width in ((4, 2), (9, 3), (30, 7), (30, 29)):
            apart = sheet_of([((day,), 4 + day % 3) for day in range(count)], count, width)
            daily = sheet_of([(tuple(range(count)), 7)], count, width)
            for first, second in pairs(apart):
                most = min(4 + first % 3, 4 + second % 3) if second - first >= width else 0
                self.assertEqual(both_range(apart, first, second), (0, most))
                self.assertEqual(both_range(daily, first, second), (7, 7))

    def test_days_on_which_nobody_comes(self):
        for width in range(1, 7):
            sheet = sheet_of([((0, 2), 3), ((2, 5), 2), ((5,), 1)], 6, width)
            for first, second in pairs(sheet):
                if first in (1, 3, 4) or second in (1, 3, 4):
                    self.assertEqual(both_range(sheet, first, second), (0, 0))
                    self.check_with(sheet, first, second, 0)
                    self.check_outside(sheet, first, second)
        for count in (2, 5, 30):
            for width in widths(count):
                self.assertEqual(both_range(sheet_of([], count, width), 0, count - 1), (0, 0))
                self.assertEqual(both_family(sheet_of([], count, width), 0, count - 1, 0), [])

    def test_wrong_sheets(self):
        for first, second in ((0, 1), (0, 0), (1, 0), (0, 30)):
            self.check_wrong_sheets(both_range, first, second)

    def test_wrong_days(self):
        for count in (1, 2, 5, 30):
            for width in widths(count):
                sheet = sheet_of([], count, width)
                for first, second in itertools.product(range(-2, count + 2), repeat=2):
                    if 0 <= first < second < count:
                        self.assertEqual(both_range(sheet, first, second), (0, 0))
                    else:
                        self.check_error(InvalidDay, both_range, sheet, first, second)
                        self.check_error(InvalidDay, both_family, sheet, first, second, 0)
        for first, second in ((0, HUGE), (-HUGE, 0), (-HUGE, HUGE), (HUGE, -HUGE), (HUGE, HUGE)):
            self.check_error(InvalidDay, both_range, PAPER, first, second)
            self.check_error(InvalidDay, both_family, PAPER, first, second, 0)


class FamilyTest(BothTest):
    def test_worked_examples(self):
        self.assertEqual(both_family([[2], [5]], 0, 1, 0), [((0,), 2), ((1,), 5)])
        self.assertEqual(both_family([[2], [5]], 0, 1, 1), [((0,), 1), ((0, 1), 1), ((1,), 4)])
        self.assertEqual(both_family([[2], [5]], 0, 1, 2), [((0, 1), 2), ((1,), 3)])
        self.assertEqual(both_family([[4], [5, 6]], 0, 1, 3), [((0,), 1), ((0, 1), 3), ((1,), 2)])

    def test_each_number_of_small_sheets(self):
        for sheet, own in small_cases():
            for first, second in pairs(sheet):
                least, greatest = both_range(sheet, first, second)
                for number in range(least, greatest + 1):
                    self.check_with(sheet, first, second, number)
                    self.assertIn(both_family(sheet, first, second, number), own)
                self.check_outside(sheet, first, second)

    def test_numbers_of_large_sheets(self):
        rng = random.Random(43)
        for sheet in large_cases():
            count = len(sheet)
            for first, second in {(0, count - 1), (1, count - 1)} | set(rng.sample(pairs(sheet), 3)):
                self.check_some(rng, sheet, first, second)

    def test_each_width_of_30_days(self):
        rng = random.Random(44)
        family = random_family(rng, 30, 400, HUGE)
        for width in range(1, 31):
            self.check_some(rng, sheet_of(family, 30, width), 0, 29)

    def test_each_number_of_some_sheets(self):
        rng = random.Random(45)
        for count in (5, 7, 9):
            family = random_family(rng, count, 20, 2)
            for width in range(1, count + 1):
                sheet = sheet_of(family, count, width)
                least, greatest = both_range(sheet, 0, count - 1)
                for number in range(least, greatest + 1):
                    self.check_with(sheet, 0, count - 1, number)

    def test_wrong_numbers_come_behind_impossible_sheets(self):
        for sheet in impossible_sheets():
            if len(sheet) > 1:
                for number in (-HUGE, -1, 0, HUGE):
                    self.check_impossible(sheet, both_family, sheet, 0, len(sheet) - 1, number)
                self.check_impossible(sheet, both_range, sheet, 0, len(sheet) - 1)
            for first, second in ((0, 0), (len(sheet), 0), (0, len(sheet)), (-1, 0)):
                self.check_error(InvalidDay, both_range, sheet, first, second)
                self.check_error(InvalidDay, both_family, sheet, first, second, -1)

    def test_wrong_sheets(self):
        for first, second, number in ((0, 1, 0), (0, 0, 1), (1, 0, 0), (0, 30, -1)):
            self.check_wrong_sheets(both_family, first, second, number)


if __name__ == "__main__":
    unittest.main()
