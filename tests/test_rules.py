"""The general rules of point 2, for every function."""

import copy
import unittest

from facesagain import both, ends, families, gaps, longer, patterns, session, sheets, slips, stretches, texts
from tests.samples import HUGE, PAPER

FAMILY = [((0,), 1), ((0, 1), 2), ((1, 2), 1), ((2,), 1)]
NO_FAMILY_HAS = [[1], [0, 0], [3, 1, HUGE]]
# Visitors of single days alone, so that each day two or more days ahead can be joined to each one behind it.
APART = [[5], [3, 8], [4, 7], [HUGE, HUGE + 4]]

# Each call by the names of its arguments, in the order of the signature.
CALLS = [
    (sheets.sheet_of, {"family": FAMILY, "count": 4, "width": 3}),
    (sheets.sheet_of, {"family": [], "count": 3, "width": 3}),
    (sheets.days_in, {"sheet": PAPER}),
    (sheets.width_in, {"sheet": PAPER}),
    (sheets.visits_of, {"sheet": PAPER, "day": 2}),
    (sheets.unlike_of, {"sheet": PAPER, "first": 1, "last": 2}),
    (sheets.narrowed_sheet, {"sheet": PAPER, "width": 1}),
    (sheets.narrowed_sheet, {"sheet": PAPER, "width": 2}),
    (sheets.narrowed_sheet, {"sheet": NO_FAMILY_HAS, "width": 3}),
    (gaps.gap_of, {"sheet": NO_FAMILY_HAS, "first": 0, "second": 2}),
    (gaps.away_of, {"sheet": PAPER, "day": 1}),
    (gaps.fresh_of, {"sheet": PAPER, "day": 1}),
    (gaps.all_gaps, {"sheet": PAPER}),
    (gaps.all_gaps, {"sheet": NO_FAMILY_HAS}),
    (gaps.conflict_of, {"sheet": PAPER}),
    (gaps.conflict_of, {"sheet": NO_FAMILY_HAS}),
    (gaps.shows_conflict, {"sheet": NO_FAMILY_HAS, "thing": ("away", 0, 1)}),
    (gaps.shows_conflict, {"sheet": NO_FAMILY_HAS, "thing": [["gap", 0, 1]]}),
    (families.is_family, {"thing": FAMILY, "count": 4}),
    (families.is_family, {"thing": [[FAMILY]], "count": 4}),
    (families.has_sheet, {"sheet": PAPER, "thing": FAMILY}),
    (families.has_sheet, {"sheet": NO_FAMILY_HAS, "thing": [[FAMILY]]}),
    (families.some_family, {"sheet": PAPER}),
    (families.some_family, {"sheet": APART}),
    (families.some_family, {"sheet": [[0], [0, 0]]}),
    (families.joined_family, {"sheet": PAPER, "joins": []}),
    (families.joined_family, {"sheet": APART, "joins": [(0, 2, 1), (0, 3, 2), (1, 3, 1)]}),
    (longer.longer_range, {"sheet": APART, "first": 0, "last": 3}),
    (longer.longer_range, {"sheet": APART, "first": 2, "last": 3}),
    (longer.longer_paper, {"sheet": APART, "first": 1, "last": 3}),
    (longer.longer_family, {"sheet": APART, "first": 0, "last": 3, "number": HUGE + 12}),
    (longer.longer_family, {"sheet": APART, "first": 1, "last": 2, "number": 7}),
    (ends.new_range, {"sheet": APART, "day": 3}),
    (ends.again_range, {"sheet": APART, "day": 3}),
    (ends.gone_range, {"sheet": APART, "day": 1}),
    (ends.next_range, {"sheet": APART, "first": 0, "second": 3}),
    (ends.next_range, {"sheet": APART, "first": 0, "second": 1}),
    (ends.all_range, {"sheet": APART}),
    (stretches.common_of, {"sheet": APART, "first": 1, "last": 1, "second": 2, "end": 2}),
    (stretches.common_of, {"sheet": APART, "first": 2, "last": 3, "second": 3, "end": 3}),
    (stretches.came_again, {"sheet": APART, "day": 1}),
    (stretches.came_again, {"sheet": APART, "day": 3}),
    (patterns.pattern_range, {"sheet": APART, "pattern": (0, 3)}),
    (patterns.family_with, {"sheet": APART, "pattern": (0, 3), "number": 0}),
    (patterns.family_with, {"sheet": APART, "pattern": (0, 3), "number": 2}),
    (patterns.family_with, {"sheet": [[0], [0, 0]], "pattern": (0, 1), "number": 0}),
    (patterns.once_range, {"sheet": [[4], [5, 6]]}),
    (patterns.daily_range, {"sheet": APART}),
    (both.both_range, {"sheet": APART, "first": 0, "second": 3}),
    (both.both_family, {"sheet": APART, "first": 0, "second": 3, "number": 0}),
    (both.both_family, {"sheet": APART, "first": 0, "second": 3, "number": 2}),
    (both.both_family, {"sheet": PAPER, "first": 0, "second": 2, "number": 1}),
    (slips.value_range, {"sheet": APART, "day": 3, "back": 1}),
    (slips.value_range, {"sheet": NO_FAMILY_HAS, "day": 0, "back": 0}),
    (slips.corrections, {"sheet": APART}),
    (slips.corrections, {"sheet": NO_FAMILY_HAS}),
    (slips.least_correction, {"sheet": APART}),
    (slips.least_correction, {"sheet": [[4], [1, 2]]}),
    (texts.write_sheet, {"sheet": APART}),
    (texts.read_sheet, {"text": "5 3,8 4,7"}),
    (texts.read_sheet, {"text": "5 5 5"}),
    (texts.write_family, {"family": FAMILY}),
    (texts.write_family, {"family": []}),
    (texts.read_family, {"text": "0:1 0.1:2"}),
    (texts.read_family, {"text": "-"}),
    (session.session, {"rows": "door 2\nadd 3\nadd 3,4\nall\n\nnew 9"}),
]


def lists_in(thing):
    """All lists in an object, itself included."""
    found = [thing] if isinstance(thing, list) else []
    if isinstance(thing, (list, tuple)):
        for part in thing:
            found += lists_in(part)
    return found


def spoil(thing):
    """Change each list in an object."""
    for found in lists_in(thing):
        found.append(None)
        found.reverse()


class RulesTest(unittest.TestCase):
    def test_by_position_and_by_name(self):
        for call, told in CALLS:
            expected = call(*told.values())
            self.assertEqual(call(**told), expected)
            self.assertEqual(call(**dict(reversed(list(told.items())))), expected)
            first, *rest = told.items()
            self.assertEqual(call(first[1], **dict(rest)), expected)

    def test_equal_calls_give_equal_results(self):
        for call, told in CALLS:
            expected = call(**told)
            for _ in range(3):
                answer = call(**copy.deepcopy(told))
                self.assertEqual(answer, expected)
                self.assertIs(type(answer), type(expected))

    def test_what_is_passed_is_not_changed(self):
        for call, told in CALLS:
            before = copy.deepcopy(told)
            call(**told)
            self.assertEqual(told, before)

    def test_returned_lists_are_new(self):
        seen = []
        for call, told in CALLS:
            for _ in range(2):
                seen += lists_in(list(told.values()))
                answer = call(**told)
                for found in lists_in(answer):
                    self.assertFalse(any(found is other for other in seen), call.__name__)
                    seen.append(found)

    def test_rows_that_are_one_object_become_unlike_ones(self):
        row = [0]
        answer = sheets.narrowed_sheet([row, row, row], 1)
        self.assertEqual(answer, [[0], [0], [0]])
        self.assertEqual(len({id(found) for found in lists_in(answer) + [row]}), 5)

    def test_results_stay_when_arguments_change_later(self):
        for call, told in CALLS:
            mine = copy.deepcopy(told)
            answer = call(**mine)
            expected = copy.deepcopy(answer)
            spoil(list(mine.values()))
            self.assertEqual(answer, expected)

    def test_later_calls_stay_when_results_change(self):
        for call, told in CALLS:
            expected = copy.deepcopy(call(**told))
            before = copy.deepcopy(told)
            spoil(call(**told))
            self.assertEqual(told, before)
            self.assertEqual(call(**told), expected)

    def test_returned_values_may_be_passed_back(self):
        family = [((0,), HUGE), ((0, 1), HUGE), ((1,), HUGE)]
        sheet = sheets.sheet_of(family, 2, 2)
        self.assertGreater(sheet[1][1], HUGE)
        self.assertEqual(sheets.narrowed_sheet(sheet, 2), sheet)
        self.assertEqual(gaps.all_gaps(sheet), [(0, 1, HUGE)])
        self.assertTrue(gaps.shows_conflict(NO_FAMILY_HAS, gaps.conflict_of(NO_FAMILY_HAS)))
        self.assertFalse(gaps.shows_conflict(sheet, gaps.conflict_of(sheet)))
        self.assertEqual(families.some_family(sheet), family)
        least, greatest = longer.longer_range(APART, 0, 3)
        self.assertGreater(least, HUGE)
        for number in (least, greatest):
            self.assertTrue(families.has_sheet(APART, longer.longer_family(APART, 0, 3, number)))
        crowded = [[HUGE], [HUGE + 2, HUGE + 2], [4 * HUGE, 5 * HUGE, 5 * HUGE]]
        least, greatest = patterns.pattern_range(crowded, (2,))
        self.assertGreater(least, HUGE)
        for number in (least, greatest):
            self.assertTrue(families.has_sheet(crowded, patterns.family_with(crowded, (2,), number)))
        number = both.both_range(crowded, 0, 1)[0]
        self.assertTrue(families.has_sheet(crowded, both.both_family(crowded, 0, 1, number)))


if __name__ == "__main__":
    unittest.main()
