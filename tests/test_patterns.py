import itertools
import random
import unittest

from facesagain.ends import gone_range, new_range
from facesagain.errors import FaceError, InvalidNumber, InvalidPattern, NotFull
from facesagain.gaps import away_of, conflict_of, fresh_of, gap_of
from facesagain.patterns import daily_range, family_with, once_range, pattern_range
from facesagain.sheets import sheet_of, visits_of
from tests.samples import (
    HUGE, OBJECTS, PAPER, WRONG_NUMBERS, families, impossible_sheets, large_cases, possible_sheets, random_family,
    small_cases, widths,
)
from tests.wrong import WrongCalls


def all_patterns(count):
    return [days for length in range(1, count + 1) for days in itertools.combinations(range(count), length)]


def number_with(family, pattern):
    return sum(many for days, many in family if days == pattern)


def once_in(family):
    return sum(many for days, many in family if len(days) == 1)


def widest_step(pattern):
    return max([later - day for day, later in zip(pattern, pattern[1:])], default=0)


def range_by_results(sheet, pattern):
    """The range by R1 to R3: who has the pattern takes a part of each number of its steps; all others avoid it."""
    width = len(sheet[-1])
    bounds = [fresh_of(sheet, pattern[0]), away_of(sheet, pattern[-1])]
    # How many of the visitors of the days so far must have come just as the pattern tells.
    least = new_range(sheet, pattern[0])[0]
    for day, later in zip(pattern, pattern[1:]):
        if later - day < width:
            bounds.append(gap_of(sheet, day, later))
            onward = bounds[-1]
        else:
            bounds += [away_of(sheet, day), fresh_of(sheet, later)]
            onward = 0
        least = max(0, least - (visits_of(sheet, day) - onward))
    day = pattern[-1]
    return max(0, least - (visits_of(sheet, day) - gone_range(sheet, day)[0])), min(bounds)


def draw_pattern(rng, sheet):
    """A pattern whose steps, mostly, some visitors can have gone."""
    width = len(sheet[-1])
    day = rng.choice([day for day in range(len(sheet)) if fresh_of(sheet, day) > 0] or [0])
    pattern = [day]
    while rng.random() < 0.7:
        near = [later for later in range(day + 1, min(day + width, len(sheet))) if gap_of(sheet, day, later) > 0]
        far = [later for later in range(day + width, len(sheet)) if fresh_of(sheet, later) > 0]
        if near + far == []:
            break
        day = rng.choice(far if rng.random() < 0.2 and far else near or far)
        pattern.append(day)
    return tuple(pattern)


def crowded_cases(rng):
    """Tuples (sheet, pattern) of sheets in which, mostly, somebody must have the pattern."""
    for count in (4, 9, 30):
        for most in (1, 7, HUGE):
            for _ in range(4):
                pattern = tuple(sorted(rng.sample(range(count), rng.randint(1, min(count, 6)))))
                table = dict(random_family(rng, count, 6, max(1, most // 9)))
                table[pattern] = table.get(pattern, 0) + 5 * most
                for width in sorted({widest_step(pattern) + 1, count}):
                    yield sheet_of(sorted(table.items()), count, width), pattern


class PatternTest(WrongCalls):
    def check_with(self, sheet, pattern, number):
        family = family_with(sheet, pattern, number)
        self.check_family(sheet, family)
        self.assertEqual(number_with(family, pattern), number)

    def check_outside(self, sheet, pattern):
        least, greatest = pattern_range(sheet, pattern)
        for number in (least - 1, greatest + 1, -1, -HUGE, greatest + HUGE):
            self.check_error(InvalidNumber, family_with, sheet, pattern, number)


class RangeTest(PatternTest):
    def test_worked_examples(self):
        ranges = [pattern_range(PAPER, pattern) for pattern in all_patterns(3)]
        self.assertEqual(ranges, [(0, 1), (0, 1), (0, 1), (1, 2), (0, 1), (0, 1), (0, 1)])
        self.assertEqual(pattern_range([[7]], (0,)), (7, 7))
        self.assertEqual(pattern_range([[0]], (0,)), (0, 0))
        self.assertEqual(pattern_range([[2], [5]], (0,)), (0, 2))
        self.assertEqual(pattern_range([[2], [5]], (1,)), (3, 5))
        self.assertEqual(pattern_range([[2], [5]], (0, 1)), (0, 2))
        # 4 + 5 visitors, 3 of them on both days.
        self.assertEqual(pattern_range([[4], [5, 6]], (0, 1)), (3, 3))
        self.assertEqual(pattern_range([[4], [5, 6]], (0,)), (1, 1))
        # On day 1 there are 10: 9 came from day 0, 8 of all go on to day 2, and so 7 or more of the 9.
        sheet = sheet_of([((0, 1), 1), ((0, 1, 2), 8), ((1,), 1)], 3, 3)
        self.assertEqual(pattern_range(sheet, (0, 1, 2)), (7, 8))
        self.assertEqual(pattern_range(sheet, (0, 1)), (1, 2))
        self.assertEqual(pattern_range(sheet, (1,)), (0, 1))
        self.assertEqual(pattern_range(sheet, (0, 2)), (0, 0))

    def test_small_sheets_by_all_their_families(self):
        seen = set()
        for sheet, own in small_cases():
            count, width = len(sheet), len(sheet[-1])
            for pattern in all_patterns(count):
                numbers = {number_with(family, pattern) for family in own}
                answer = pattern_range(sheet, pattern)
                self.assertIs(type(answer), tuple)
                self.assertEqual(answer, (min(numbers), max(numbers)), (sheet, pattern))
                self.assertEqual(numbers, set(range(min(numbers), max(numbers) + 1)))
                seen.add((count, width, len(pattern), widest_step(pattern) >= width, 0 < answer[0] < answer[1]))
        # Open ones that are not 0 at least: of one day, of all days, of several with steps that are told.
        self.assertLessEqual({(3, 3, 1, False, True), (3, 3, 3, False, True), (3, 2, 2, False, True)}, seen)
        self.assertLessEqual({(4, 4, 2, False, True), (4, 2, 1, False, True), (4, 1, 1, False, True)}, seen)
        self.assertLessEqual({(4, 2, 2, True, False), (4, 3, 4, False, False), (4, 1, 4, True, False)}, seen)

    def test_steps_that_are_not_told_leave_all_open(self):
        for sheet in large_cases():
            count, width = len(sheet), len(sheet[-1])
            for first, second in itertools.combinations(range(count), 2):
                if second - first >= width:
                    most = min(fresh_of(sheet, first), away_of(sheet, first), fresh_of(sheet, second),
                               away_of(sheet, second))
                    self.assertEqual(pattern_range(sheet, (first, second)), (0, most))

    def test_large_sheets_by_the_results(self):
        rng = random.Random(31)
        greatest = []
        for sheet in large_cases():
            for _ in range(12):
                pattern = draw_pattern(rng, sheet)
                answer = pattern_range(sheet, pattern)
                self.assertEqual(answer, range_by_results(sheet, pattern))
                greatest.append(answer[1])
        self.assertGreater(len([number for number in greatest if number > 10 ** 20]), 50)

    def test_patterns_that_somebody_must_have(self):
        found = []
        for sheet, pattern in crowded_cases(random.Random(32)):
            answer = pattern_range(sheet, pattern)
            self.assertEqual(answer, range_by_results(sheet, pattern))
            found.append(answer)
        self.assertGreater(len([least for least, greatest in found if 0 < least < greatest]), 20)

    def test_a_family_is_within(self):
        for sheet, family, count, _ in possible_sheets():
            for pattern, many in family[:9]:
                least, greatest = pattern_range(sheet, pattern)
                self.assertTrue(least <= many <= greatest)

    def test_patterns_of_which_nobody_can_be(self):
        sheet = sheet_of([((0, 1, 2), 3), ((1, 2), 2), ((4,), 2)], 6, 3)
        for pattern in all_patterns(6):
            least, greatest = pattern_range(sheet, pattern)
            if 3 in pattern or 5 in pattern or 2 in pattern and 1 not in pattern or 0 in pattern and 1 not in pattern:
                self.assertEqual((least, greatest), (0, 0))
                self.check_with(sheet, pattern, 0)
                self.check_outside(sheet, pattern)
        for count in (1, 5, 30):
            for width in widths(count):
                for pattern in ((0,), (count - 1,), tuple(range(count))):
                    self.assertEqual(pattern_range(sheet_of([], count, width), pattern), (0, 0))
                    self.assertEqual(family_with(sheet_of([], count, width), pattern, 0), [])

    def test_all_of_30_days(self):
        pattern = tuple(range(30))
        for width in range(2, 31):
            self.assertEqual(pattern_range(sheet_of([(pattern, HUGE)], 30, width), pattern), (HUGE, HUGE))
        self.assertEqual(pattern_range(sheet_of([(pattern, HUGE)], 30, 1), pattern), (0, HUGE))


class FamilyWithTest(PatternTest):
    def test_worked_examples(self):
        self.assertEqual(family_with([[7]], (0,), 7), [((0,), 7)])
        self.assertEqual(family_with([[2], [5]], (0,), 0), [((0, 1), 2), ((1,), 3)])
        self.assertEqual(family_with([[2], [5]], (0,), 1), [((0,), 1), ((0, 1), 1), ((1,), 4)])
        self.assertEqual(family_with([[2], [5]], (0, 1), 2), [((0, 1), 2), ((1,), 3)])

    def test_each_number_of_small_sheets(self):
        for sheet, own in small_cases():
            for pattern in all_patterns(len(sheet)):
                least, greatest = pattern_range(sheet, pattern)
                for number in range(least, greatest + 1):
                    self.check_with(sheet, pattern, number)
                    self.assertIn(family_with(sheet, pattern, number), own)
                self.check_outside(sheet, pattern)

    def test_numbers_of_large_sheets(self):
        rng = random.Random(33)
        cases = [(sheet, draw_pattern(rng, sheet)) for sheet in large_cases() for _ in range(4)]
        for sheet, pattern in cases + list(crowded_cases(rng)):
            least, greatest = pattern_range(sheet, pattern)
            for number in {least, (least + greatest) // 2, greatest, rng.randint(least, greatest)}:
                self.check_with(sheet, pattern, number)
            self.check_outside(sheet, pattern)

    def test_each_number_of_crowded_sheets(self):
        for sheet, pattern in crowded_cases(random.Random(34)):
            least, greatest = pattern_range(sheet, pattern)
            if greatest - least < 40 and len(sheet) < 10:
                for number in range(least, greatest + 1):
                    self.check_with(sheet, pattern, number)

    def test_wrong_numbers_come_behind_impossible_sheets(self):
        for sheet in impossible_sheets():
            for number in (-HUGE, -1, 0, 1, HUGE):
                self.check_impossible(sheet, family_with, sheet, (0,), number)
            self.check_impossible(sheet, pattern_range, sheet, (len(sheet) - 1,))

    def test_wrong_sheets(self):
        for pattern in ((0,), (0, 1), (30,), (), None):
            self.check_wrong_sheets(pattern_range, pattern)
        self.check_wrong_sheets(family_with, (0,), 0)
        self.check_wrong_sheets(family_with, None, -1)


class WrongPatternTest(PatternTest):
    def check_pattern(self, thing, count):
        for width in (1, (count + 1) // 2, count):
            sheet = sheet_of([((day,), 2) for day in range(count)], count, width)
            self.check_error(InvalidPattern, pattern_range, sheet, thing)
            for number in (-1, 0, HUGE):
                self.check_error(InvalidPattern, family_with, sheet, thing, number)

    def test_any_object(self):
        for thing in OBJECTS + [PAPER, [((0,), 1)], ((0,), (1,)), range(3), {0: 1}, [0, 1], "(0,)", ([],), ({},)]:
            if thing != (1,):
                self.check_pattern(thing, 30)
        self.check_pattern((), 1)

    def test_days_that_are_not_ascending(self):
        for thing in (
            (0, 0), (1, 0), (29, 0), (0, 2, 1), (0, 1, 1), (0, 0, 1), (2, 1, 0), (0, 1, 0), (5, 6, 7, 7), (3, 4, 3, 5),
        ):
            self.check_pattern(thing, 30)

    def test_days_beside_the_sheet(self):
        for count in (1, 2, 3, 9, 29, 30):
            for day in (count, count + 1, 29, 30, 31, HUGE):
                if day >= count:
                    for thing in ((day,), (0, day), (count - 1, day), tuple(range(count)) + (day,), (day, 0)):
                        self.check_pattern(thing, count)
            for day in (-1, -2, -count, -30, -HUGE):
                for thing in ((day,), (day, 0), (0, day), (day,) + tuple(range(count))):
                    self.check_pattern(thing, count)
            sheet = sheet_of([], count, 1)
            for pattern in {(0,), (count - 1,), tuple(sorted({0, count - 1})), tuple(range(count))}:
                self.assertEqual(pattern_range(sheet, pattern), (0, 0))

    def test_one_thing_wrong_at_each_place(self):
        for good in ((0,), (2,), (0, 1), (0, 1, 2, 3), (1, 5, 9, 28), (0, 2, 3, 7, 29)):
            for at in range(len(good)):
                for other in WRONG_NUMBERS + [30, 31, HUGE, (good[at],), str(good[at]), FaceError("x")]:
                    self.check_pattern(good[:at] + (other,) + good[at + 1:], 30)
                self.check_pattern(good[:at] + (good[at], good[at]) + good[at + 1:], 30)
            self.check_pattern(list(good), 30)

    def test_booleans_as_days(self):
        for thing in ((True,), (False,), (False, 1), (0, True), (False, True), (0, True, 2)):
            self.check_pattern(thing, 3)

    def test_wrong_patterns_come_ahead_of_impossible_sheets(self):
        for sheet in impossible_sheets():
            for thing in ((), (len(sheet),), (0, 0), [0], None, (True,)):
                self.check_error(InvalidPattern, pattern_range, sheet, thing)
                self.check_error(InvalidPattern, family_with, sheet, thing, -1)


class OnceTest(WrongCalls):
    def test_worked_examples(self):
        self.assertEqual(once_range([[7]]), (7, 7))
        self.assertEqual(once_range([[4], [5, 6]]), (3, 3))
        # One visitor of day 1 is new, and one goes there for good: it is the same one, or not.
        sheet = sheet_of([((0, 1, 2), 1), ((1,), 1)], 3, 3)
        self.assertEqual(once_range(sheet), (0, 1))
        self.assertEqual(once_range(sheet_of([((1,), 5)], 3, 3)), (5, 5))

    def test_small_sheets_by_all_their_families(self):
        wide = 0
        for sheet, own in small_cases():
            if len(sheet[-1]) == len(sheet):
                numbers = {once_in(family) for family in own}
                answer = once_range(sheet)
                self.assertIs(type(answer), tuple)
                self.assertEqual(answer, (min(numbers), max(numbers)))
                wide += len(numbers) > 1
        self.assertGreater(wide, 5)

    def test_large_sheets(self):
        for family, count in families():
            sheet = sheet_of(family, count, count)
            least, greatest = once_range(sheet)
            self.assertTrue(least <= once_in(family) <= greatest)
            days = [(fresh_of(sheet, day), away_of(sheet, day), visits_of(sheet, day)) for day in range(count)]
            self.assertEqual(least, sum(max(0, new + gone - visits) for new, gone, visits in days))
            self.assertEqual(greatest, sum(min(new, gone) for new, gone, _ in days))

    def test_sheets_that_are_not_full(self):
        for sheet, _, count, width in possible_sheets():
            if width < count:
                self.check_error(NotFull, once_range, sheet)
        for count in range(2, 31):
            for width in range(1, count):
                self.check_error(NotFull, once_range, sheet_of([], count, width))
            self.assertEqual(once_range(sheet_of([], count, count)), (0, 0))

    def test_sheets_that_are_not_full_come_ahead_of_impossible_ones(self):
        seen = {True: 0, False: 0}
        for sheet in impossible_sheets():
            full = len(sheet) == len(sheet[-1])
            if full:
                self.check_impossible(sheet, once_range, sheet)
            else:
                self.check_error(NotFull, once_range, sheet)
            seen[full] += 1
        self.assertGreater(min(seen.values()), 10)

    def test_wrong_sheets(self):
        self.check_wrong_sheets(once_range)


class DailyTest(WrongCalls):
    def test_worked_examples(self):
        self.assertEqual(daily_range(PAPER), (0, 1))
        self.assertEqual(daily_range([[4], [5, 6]]), (3, 3))
        self.assertEqual(daily_range([[4], [5]]), (0, 4))
        self.assertEqual(daily_range([[4], [5], [3], [9]]), (0, 3))

    def test_one_day_alone(self):
        for number in (0, 1, 2, HUGE):
            self.assertEqual(daily_range([[number]]), (number, number))

    def test_small_sheets_by_all_their_families(self):
        for sheet, own in small_cases():
            numbers = {number_with(family, tuple(range(len(sheet)))) for family in own}
            answer = daily_range(sheet)
            self.assertIs(type(answer), tuple)
            self.assertEqual(answer, (min(numbers), max(numbers)))

    def test_as_for_the_pattern_of_all_days(self):
        for sheet, _, count, _ in possible_sheets():
            self.assertEqual(daily_range(sheet), pattern_range(sheet, tuple(range(count))))

    def test_each_width_of_30_days(self):
        family = sorted([(tuple(range(30)), HUGE), ((0,), 2), ((3, 4), 3), ((29,), 1)])
        for width in range(1, 31):
            sheet = sheet_of(family, 30, width)
            self.assertIsNone(conflict_of(sheet))
            least, greatest = daily_range(sheet)
            self.assertEqual(greatest, HUGE)
            self.assertEqual(least == 0, width == 1)
            self.assertLessEqual(least, HUGE)

    def test_wrong_and_impossible_sheets(self):
        self.check_wrong_sheets(daily_range)
        for sheet in impossible_sheets():
            self.check_impossible(sheet, daily_range, sheet)


if __name__ == "__main__":
    unittest.main()
