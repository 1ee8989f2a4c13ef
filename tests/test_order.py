"""Which error comes first: arguments in the order of the signature, then Impossible, then the others."""

import unittest

from facesagain import both, ends, families, longer, patterns, stretches
from facesagain.errors import InvalidDay, InvalidJoins, InvalidNumber, InvalidPattern, InvalidSheet, NotFull
from facesagain.gaps import conflict_of
from tests.samples import HUGE, impossible_sheets, sheet_by_hand
from tests.wrong import WrongCalls

SHEET = sheet_by_hand([((0,), 2), ((0, 1), 1), ((1,), 3), ((2,), 2), ((3,), 2)], 4, 2)
# As many days and as wide, but no family has it: away(0) would be 0 - 9.
NO_FAMILY_HAS = [[0], [9, 0], [0, 9], [0, 0]]

WRONG_DAYS = [-1, 4, 5, -HUGE, HUGE]
WRONG_PAIRS = [(-1, 2), (0, 4), (4, 0), (4, 4), (-1, -1), (-1, 4), (2, 1), (3, 0), (-HUGE, HUGE), (HUGE, -HUGE)]
WRONG_JOINS = [None, (), {}, [None], [(0, 2)], [(0, 1, 1)], [(0, 4, 1)], [(-1, 2, 1)], [(0, 2, 0)], [(0, 2, True)],
               [(1, 3, 1), (0, 2, 1)], [(0, 2, 1), (0, 2, 1)], [(0, 2, HUGE), (0, 2, 1)], [[0, 2, HUGE]]]
WRONG_STRETCHES = [(1, 0, 0, 0), (0, 0, 2, 2), (0, 1, 0, 0), (0, 1, 1, 2), (0, 0, 1, 0), (-1, 0, 0, 0), (3, 3, 3, 4),
                   (4, 4, 4, 4), (0, HUGE, 0, HUGE), (-HUGE, 0, 0, 0), (0, 0, 0, 4), (0, 0, -1, 0), (0, 2, 0, 2)]
WRONG_PATTERNS = [None, (), [0], (4,), (-1,), (0, 4), (0, 0), (1, 0), (True,), (0, "1"), 0, "0", (HUGE,), (0, None)]

# Each function with arguments behind the sheet that are right, that are wrong of themselves with their error, and
# that only a possible sheet shows to be wrong, with that error.
CALLS = [
    (families.some_family, [()], [], None, [], None),
    (
        families.joined_family, [([],), ([(0, 2, 1)],), ([(0, 2, 2), (1, 3, 2)],)],
        [(joins,) for joins in WRONG_JOINS], InvalidJoins,
        [([(0, 2, 3)],), ([(0, 2, 1), (0, 3, 2)],), ([(0, 3, 1), (1, 3, 2)],), ([(0, 2, HUGE)],)], InvalidJoins,
    ),
    (longer.longer_range, [(0, 0), (0, 1), (0, 2), (0, 3), (3, 3)], WRONG_PAIRS, InvalidDay, [], None),
    (
        longer.longer_paper, [(0, 2), (0, 3), (1, 3)], WRONG_PAIRS + [(0, 0), (0, 1), (1, 2), (2, 3), (3, 3)],
        InvalidDay, [], None,
    ),
    (
        longer.longer_family, [(0, 0, 3), (0, 1, 6), (0, 2, 8), (0, 3, 10), (0, 3, 6)],
        [pair + (number,) for pair in WRONG_PAIRS for number in (-1, 0, 6, HUGE)], InvalidDay,
        [(0, 0, 2), (0, 0, 4), (0, 3, 5), (0, 3, 11), (0, 3, -1), (0, 3, HUGE), (1, 3, -HUGE)], InvalidNumber,
    ),
    (ends.new_range, [(0,), (3,)], [(day,) for day in WRONG_DAYS], InvalidDay, [], None),
    (ends.again_range, [(0,), (3,)], [(day,) for day in WRONG_DAYS], InvalidDay, [], None),
    (ends.gone_range, [(0,), (3,)], [(day,) for day in WRONG_DAYS], InvalidDay, [], None),
    (ends.next_range, [(0, 1), (0, 3), (2, 3)], WRONG_PAIRS + [(0, 0), (3, 3)], InvalidDay, [], None),
    (ends.all_range, [()], [], None, [], None),
    (
        stretches.common_of, [(0, 0, 0, 0), (0, 0, 1, 1), (2, 3, 3, 3), (3, 3, 3, 3)], WRONG_STRETCHES, InvalidDay,
        [], None,
    ),
    (stretches.came_again, [(0,), (3,)], [(day,) for day in WRONG_DAYS], InvalidDay, [], None),
    (
        patterns.pattern_range, [((0,),), ((3,),), ((0, 3),), ((0, 1, 2, 3),)],
        [(pattern,) for pattern in WRONG_PATTERNS], InvalidPattern, [], None,
    ),
    (
        patterns.family_with, [((0,), 2), ((0,), 0), ((0, 1), 1), ((0, 2), 2)],
        [(pattern, number) for pattern in WRONG_PATTERNS for number in (-1, 0, HUGE)], InvalidPattern,
        [((0,), -1), ((0,), 3), ((0, 1), 2), ((0, 2), 3), ((2, 3), 1), ((0,), HUGE), ((0,), -HUGE)], InvalidNumber,
    ),
    (patterns.daily_range, [()], [], None, [], None),
    (both.both_range, [(0, 1), (0, 3), (2, 3)], WRONG_PAIRS + [(0, 0), (3, 3)], InvalidDay, [], None),
    (
        both.both_family, [(0, 1, 1), (0, 2, 0), (0, 2, 2)],
        [pair + (number,) for pair in WRONG_PAIRS + [(0, 0), (3, 3)] for number in (-1, 0, 1, HUGE)], InvalidDay,
        [(0, 1, 0), (0, 1, 2), (0, 2, -1), (0, 2, 3), (0, 2, HUGE), (0, 1, -HUGE)], InvalidNumber,
    ),
]


class OrderTest(WrongCalls):
    def test_right_calls(self):
        for call, right, _, _, _, _ in CALLS:
            for rest in right:
                with self.subTest(call=call.__name__, rest=rest):
                    call(SHEET, *rest)

    def test_wrong_sheets_come_first(self):
        for call, right, wrong, _, late, _ in CALLS:
            for sheet in (None, [], [[True]], [[1], [0, 0, 0]], tuple(SHEET), SHEET[:3] + [[1]], [[0]] * 31):
                for rest in right + wrong + late:
                    self.check_error(InvalidSheet, call, sheet, *rest)

    def test_then_the_arguments_behind_it(self):
        for call, _, wrong, error, _, _ in CALLS:
            for rest in wrong:
                self.check_error(error, call, SHEET, *rest)
                self.check_error(error, call, NO_FAMILY_HAS, *rest)

    def test_then_sheets_that_no_family_has(self):
        for call, right, _, _, late, _ in CALLS:
            for rest in right + late:
                self.check_impossible(NO_FAMILY_HAS, call, NO_FAMILY_HAS, *rest)

    def test_then_the_other_errors(self):
        for call, _, _, _, late, error in CALLS:
            for rest in late:
                self.check_error(error, call, SHEET, *rest)

    def test_each_kind_of_sheet_that_no_family_has(self):
        words = set()
        for sheet in impossible_sheets():
            last = len(sheet) - 1
            self.check_impossible(sheet, families.some_family, sheet)
            self.check_impossible(sheet, families.joined_family, sheet, [])
            self.check_impossible(sheet, ends.all_range, sheet)
            for call in (ends.new_range, ends.again_range, ends.gone_range):
                self.check_impossible(sheet, call, sheet, last)
            self.check_impossible(sheet, longer.longer_range, sheet, 0, last)
            self.check_impossible(sheet, longer.longer_range, sheet, last, last)
            self.check_impossible(sheet, longer.longer_family, sheet, 0, last, 0)
            self.check_impossible(sheet, stretches.common_of, sheet, last, last, last, last)
            self.check_impossible(sheet, stretches.came_again, sheet, 0)
            self.check_impossible(sheet, patterns.pattern_range, sheet, (last,))
            self.check_impossible(sheet, patterns.family_with, sheet, (0,), 0)
            self.check_impossible(sheet, patterns.daily_range, sheet)
            if last > 0:
                self.check_impossible(sheet, ends.next_range, sheet, 0, last)
                self.check_impossible(sheet, both.both_range, sheet, 0, last)
                self.check_impossible(sheet, both.both_family, sheet, 0, last, 0)
            if last >= len(sheet[-1]):
                self.check_impossible(sheet, longer.longer_paper, sheet, 0, last)
            else:
                self.check_error(InvalidDay, longer.longer_paper, sheet, 0, last)
            words.add(conflict_of(sheet)[0])
        self.assertEqual(words, {"gap", "away", "fresh"})

    def test_sheets_that_are_not_full_come_between_wrong_and_impossible_ones(self):
        self.check_error(InvalidSheet, patterns.once_range, [[0], [0, 0], [0]])
        self.check_error(NotFull, patterns.once_range, SHEET)
        self.check_error(NotFull, patterns.once_range, NO_FAMILY_HAS)
        self.check_impossible([[4], [4, 1]], patterns.once_range, [[4], [4, 1]])


if __name__ == "__main__":
    unittest.main()
