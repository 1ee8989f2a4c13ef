import itertools
import unittest

from facesagain.errors import InvalidDay
from facesagain.gaps import all_gaps, away_of, conflict_of, fresh_of, gap_of, shows_conflict
from facesagain.sheets import sheet_of
from tests.samples import HUGE, OBJECTS, PAPER, any_sheets, possible_sheets, sheet_by_hand, widths
from tests.wrong import WrongCalls

# away(0) and fresh(1) are 1 - 4, both of days 0 and 1.
TIED = [[4], [4, 1]]


def next_day(pattern, day):
    """The next day of a pattern behind a day, None for none."""
    later = [other for other in pattern if other > day]
    return later[0] if later else None


def number_between(sheet, first, last):
    return sheet[last][last - first] if first <= last else 0


def gap_by_result(sheet, a, b):
    return (
        number_between(sheet, a, b - 1) + number_between(sheet, a + 1, b)
        - number_between(sheet, a + 1, b - 1) - number_between(sheet, a, b)
    )


def numbers_by_results(sheet):
    """The dict of all tuples (word, first, second) of R1 and R2 with their numbers."""
    count = len(sheet)
    width = len(sheet[count - 1])
    found = {}
    for a in range(count):
        for b in range(a + 1, count):
            if b - a < width:
                found["gap", a, b] = gap_by_result(sheet, a, b)
        e = min(a + width - 1, count - 1)
        found["away", a, e] = number_between(sheet, a, e) - number_between(sheet, a + 1, e)
        s = max(0, a - width + 1)
        found["fresh", s, a] = number_between(sheet, s, a) - number_between(sheet, s, a - 1)
    return found


def conflicts_by_results(sheet):
    """The tuples with a negative number, in the order by which conflict_of takes the first one."""
    negative = [told for told, number in numbers_by_results(sheet).items() if number < 0]
    return sorted(negative, key=lambda told: (told[2], told[1], told[0]))


def small_sheets(count, width, most):
    lengths = [min(day + 1, width) for day in range(count)]
    for numbers in itertools.product(range(most + 1), repeat=sum(lengths)):
        rest = list(numbers)
        yield [[rest.pop(0) for _ in range(length)] for length in lengths]


def small_family_sheets(count, width, most):
    """The sheets of all families whose numbers are at most so large, as tuples."""
    patterns = [days for size in range(1, count + 1) for days in itertools.combinations(range(count), size)]
    found = set()
    for manies in itertools.product(range(most + 1), repeat=len(patterns)):
        family = [(pattern, many) for pattern, many in zip(patterns, manies) if many > 0]
        found.add(tuple(map(tuple, sheet_by_hand(family, count, width))))
    return found


class NumbersTest(WrongCalls):
    def test_worked_examples(self):
        self.assertEqual(gap_of(PAPER, 0, 1), 2)
        self.assertEqual(gap_of(PAPER, 1, 2), 1)
        self.assertEqual([away_of(PAPER, day) for day in range(3)], [1, 2, 2])
        self.assertEqual([fresh_of(PAPER, day) for day in range(3)], [3, 1, 1])
        self.assertEqual(all_gaps(PAPER), [(0, 1, 2), (1, 2, 1)])
        self.assertEqual((away_of([[5]], 0), fresh_of([[5]], 0), all_gaps([[5]])), (5, 5, []))
        self.assertEqual(gap_of([[0], [5, 5], [0, 5, 5], [5, 5, 5]], 1, 3), 5)

    def test_gaps_by_counting(self):
        for sheet, family, count, width in possible_sheets():
            for first in range(count):
                for second in range(first + 1, min(first + width, count)):
                    expected = sum(
                        many for pattern, many in family if first in pattern and next_day(pattern, first) == second
                    )
                    self.assertEqual(gap_of(sheet, first, second), expected)

    def test_away_and_fresh_by_counting(self):
        for sheet, family, count, width in possible_sheets():
            for day in range(count):
                behind = range(day + 1, min(day + width, count))
                ahead = range(max(0, day - width + 1), day)
                on_day = [(pattern, many) for pattern, many in family if day in pattern]
                away = sum(many for pattern, many in on_day if not set(pattern) & set(behind))
                fresh = sum(many for pattern, many in on_day if not set(pattern) & set(ahead))
                self.assertEqual(away_of(sheet, day), away)
                self.assertEqual(fresh_of(sheet, day), fresh)

    def test_any_sheets_by_the_results(self):
        below = set()
        for sheet in any_sheets():
            for (word, first, second), number in numbers_by_results(sheet).items():
                if word == "gap":
                    self.assertEqual(gap_of(sheet, first, second), number)
                elif word == "away":
                    self.assertEqual(away_of(sheet, first), number)
                else:
                    self.assertEqual(fresh_of(sheet, second), number)
                if number < 0:
                    below.add(word)
        self.assertEqual(below, {"gap", "away", "fresh"})

    def test_results_below_0(self):
        self.assertEqual(gap_of([[1], [1, 3]], 0, 1), -1)
        self.assertEqual(away_of([[1], [4, 2]], 0), -2)
        self.assertEqual(fresh_of([[4], [1, 2]], 1), -2)
        self.assertEqual(gap_of([[0], [0, HUGE]], 0, 1), -HUGE)
        self.assertEqual(all_gaps([[1], [1, 3]]), [(0, 1, -1)])

    def test_all_gaps(self):
        zeros = 0
        for sheet in any_sheets() + [sheet for sheet, _, _, _ in possible_sheets()]:
            gaps = [(a, b, n) for (word, a, b), n in numbers_by_results(sheet).items() if word == "gap"]
            self.assertEqual(all_gaps(sheet), sorted(gap for gap in gaps if gap[2] != 0))
            self.assertEqual({type(gap) for gap in all_gaps(sheet)} - {tuple}, set())
            zeros += sum(gap[2] == 0 for gap in gaps)
        self.assertGreater(zeros, 100)

    def test_wrong_sheets(self):
        for day in (0, -1, 30):
            self.check_wrong_sheets(gap_of, 0, day)
            self.check_wrong_sheets(gap_of, day, 1)
            self.check_wrong_sheets(away_of, day)
            self.check_wrong_sheets(fresh_of, day)
        self.check_wrong_sheets(all_gaps)

    def test_wrong_days(self):
        for sheet in ([[4]], PAPER, sheet_of([], 30, 30), sheet_of([], 30, 1), TIED):
            for day in (-HUGE, -2, -1, len(sheet), len(sheet) + 1, HUGE):
                self.check_error(InvalidDay, away_of, sheet, day)
                self.check_error(InvalidDay, fresh_of, sheet, day)

    def test_days_too_near_and_too_far(self):
        for count in (1, 2, 3, 6, 30):
            for width in widths(count):
                sheet = sheet_of([], count, width)
                for first in range(-2, count + 2):
                    for second in range(-2, count + 2):
                        if 0 <= first < second < count and second - first < width:
                            self.assertEqual(gap_of(sheet, first, second), 0)
                        else:
                            self.check_error(InvalidDay, gap_of, sheet, first, second)
        self.check_error(InvalidDay, gap_of, PAPER, 0, HUGE)
        self.check_error(InvalidDay, gap_of, PAPER, -HUGE, 0)


class ConflictTest(WrongCalls):
    def test_worked_examples(self):
        # fresh(1) = 2 - 5, while away(0) = 2 - 1 and the gap 5 + 1 - 2 are from 0 on.
        self.assertEqual(conflict_of([[5], [1, 2]]), ("fresh", 0, 1))
        self.assertEqual(conflict_of([[1], [1, 3]]), ("gap", 0, 1))
        # With the same two days the word decides.
        self.assertEqual(conflict_of(TIED), ("away", 0, 1))
        self.assertTrue(shows_conflict(TIED, ("fresh", 0, 1)))

    def test_worked_examples_with_unlike_days(self):
        # The gaps of days 0 and 1 (0 + 0 - 1) and of days 1 and 2 (0 + 0 - 3): the last day decides.
        sheet = [[0], [0, 1], [0, 3]]
        self.assertEqual(conflict_of(sheet), ("gap", 0, 1))
        self.assertTrue(shows_conflict(sheet, ("gap", 1, 2)))
        # away(1) = 1 - 2 and the gap of days 0 and 2, 4 + 1 - 2 - 4: both end on day 2, and 0 is less than 1.
        sheet = [[4], [2, 4], [2, 1, 4]]
        self.assertEqual(conflict_of(sheet), ("gap", 0, 2))
        self.assertTrue(shows_conflict(sheet, ("away", 1, 2)))
        # away(0) = 1 - 3 ends on day 2, fresh(1) = 1 - 2 on day 1: the last item goes ahead of the second.
        sheet = [[2], [1, 1], [3, 3, 1]]
        self.assertEqual(conflict_of(sheet), ("fresh", 0, 1))
        self.assertTrue(shows_conflict(sheet, ("away", 0, 2)))

    def test_possible_sheets_have_none(self):
        self.assertIsNone(conflict_of([[0]]))
        self.assertIsNone(conflict_of(PAPER))
        for sheet, _, _, _ in possible_sheets():
            self.assertIsNone(conflict_of(sheet))

    def test_none_just_for_sheets_that_a_family_has(self):
        for count, width in ((1, 1), (2, 1), (2, 2), (3, 1), (3, 2), (3, 3)):
            known = small_family_sheets(count, width, 2)
            for sheet in small_sheets(count, width, 2):
                expected = tuple(map(tuple, sheet)) in known
                self.assertEqual(conflict_of(sheet) is None, expected, sheet)

    def test_the_first_of_several(self):
        several = 0
        for sheet in any_sheets():
            conflicts = conflicts_by_results(sheet)
            self.assertEqual(conflict_of(sheet), conflicts[0] if conflicts else None)
            several += len(conflicts) > 1
        self.assertGreater(several, 100)

    def test_each_tie(self):
        """Small sheets bring every kind of tie: the same last day, and the same two days with unlike words."""
        same_last = set()
        same_days = set()
        for count, width in ((3, 2), (3, 3)):
            for sheet in small_sheets(count, width, 3 if width == 2 else 2):
                conflicts = conflicts_by_results(sheet)
                self.assertEqual(conflict_of(sheet), conflicts[0] if conflicts else None)
                if len(conflicts) > 1 and conflicts[0][2] == conflicts[1][2]:
                    if conflicts[0][1] == conflicts[1][1]:
                        same_days.add((conflicts[0][0], conflicts[1][0]))
                    else:
                        same_last.add((conflicts[0][0], conflicts[1][0]))
        self.assertIn(("away", "fresh"), same_days)
        self.assertGreater(len(same_last), 1)

    def test_shows_each_and_only_these(self):
        for sheet in any_sheets():
            for told, number in numbers_by_results(sheet).items():
                self.assertIs(shows_conflict(sheet, told), number < 0)

    def test_one_thing_spoiled(self):
        for sheet in any_sheets()[:150]:
            right = conflicts_by_results(sheet)
            for word, first, second in right[:3]:
                spoiled = [
                    (word, second, first), (word, first, second, 0), (word, first), (first, second), (word,), (),
                    (word.upper(), first, second), (word + " ", first, second), ("", first, second),
                    (None, first, second), ([word], first, second), ((word,), first, second), (0, first, second),
                    (word, str(first), second), (word, first, str(second)), (word, None, second),
                    (word, first, None), (word, [first], second), (word, first, (second,)), (word, True, False),
                    ((word, first, second),), [word, first, second], [(word, first, second)], {word: (first, second)},
                ]
                spoiled += [(other, first, second) for other in ("gap", "away", "fresh")]
                spoiled += [(word, day, second) for day in (first - 1, first + 1, -1, HUGE)]
                spoiled += [(word, first, day) for day in (second - 1, second + 1, -1, HUGE)]
                for thing in spoiled:
                    expected = thing in right and not any(isinstance(part, bool) for part in thing)
                    self.assertIs(shows_conflict(sheet, thing), expected, (sheet, thing))

    def test_booleans_are_no_days(self):
        self.assertIs(shows_conflict(TIED, ("fresh", 0, 1)), True)
        for thing in (("fresh", False, 1), ("fresh", 0, True), ("fresh", False, True)):
            self.assertIs(shows_conflict(TIED, thing), False)
        self.assertIs(shows_conflict([[1], [1, 3]], ("gap", False, True)), False)

    def test_any_object(self):
        nested = ("gap", 0, 1)
        for _ in range(18):
            nested = [nested]
        for thing in OBJECTS + [nested, ("gap", nested, 1), (nested, 0, 1), ("gap", {}, {"a": 1}), "gap 0 1"]:
            for sheet in (PAPER, TIED, [[1], [1, 3]], [[0]]):
                self.assertIs(shows_conflict(sheet, thing), False)

    def test_wrong_sheets(self):
        self.check_wrong_sheets(conflict_of)
        for thing in (("gap", 0, 1), None, [], "gap"):
            self.check_wrong_sheets(shows_conflict, thing)


if __name__ == "__main__":
    unittest.main()
