import copy
import random
import unittest

from facesagain.errors import InvalidDay
from facesagain.gaps import conflict_of
from facesagain.sheets import sheet_of
from facesagain.slips import corrections, least_correction, value_range
from tests.samples import (
    HUGE, PAPER, any_sheets, impossible_sheets, possible_sheets, random_family, sheet_by_hand, widths,
)
from tests.test_gaps import numbers_by_results
from tests.wrong import WrongCalls


def places(sheet):
    return [(day, back) for day, row in enumerate(sheet) for back in range(len(row))]


def with_value(sheet, day, back, value):
    changed = copy.deepcopy(sheet)
    changed[day][back] = value
    return changed


def is_possible(sheet):
    return conflict_of(sheet) is None


def values_by_trying(sheet, day, back):
    """All values, up to one that is greater than all others together, with which the sheet is possible."""
    top = sum(map(sum, sheet)) + 2
    return [value for value in range(top + 1) if is_possible(with_value(sheet, day, back, value))], top


def range_by_trying(sheet, day, back):
    values, top = values_by_trying(sheet, day, back)
    if not values:
        return None
    return values[0], None if values[-1] == top else values[-1]


def range_by_results(sheet, day, back):
    """The values by how each number of R1 and R2 grows or falls when this one grows by 1."""
    at_nought = numbers_by_results(with_value(sheet, day, back, 0))
    at_one = numbers_by_results(with_value(sheet, day, back, 1))
    least, greatest = 0, None
    for told, number in at_nought.items():
        if at_one[told] > number:
            least = max(least, -number)
        elif at_one[told] < number:
            greatest = number if greatest is None else min(greatest, number)
        elif number < 0:
            return None
    return None if greatest is not None and greatest < least else (least, greatest)


def small_cases_with_slips():
    """Sheets of one to four days: possible ones, ones with one, two or three slips, and any ones."""
    rng = random.Random(51)
    found = [PAPER, [[0]], [[3]], [[0], [0]], [[2], [0, 0]], [[1], [1, 3]], [[4], [4, 1]], [[5], [1, 2]]]
    for count in (1, 2, 3, 4):
        for width in range(1, count + 1):
            for slips in (0, 1, 1, 2, 3):
                for _ in range(3):
                    sheet = sheet_by_hand(random_family(rng, count, rng.randint(1, 4), 3), count, width)
                    for _ in range(slips):
                        day, back = rng.choice(places(sheet))
                        sheet[day][back] = rng.randint(0, 7)
                    found.append(sheet)
            found.append([[rng.randint(0, 3) for _ in range(min(day + 1, width))] for day in range(count)])
    return found


class SlipsTest(WrongCalls):
    def check_values(self, sheet, day, back):
        """The answer is what R1 and R2 let; its ends are possible, and what is beside them is not."""
        answer = value_range(sheet, day, back)
        self.assertEqual(answer, range_by_results(sheet, day, back))
        if answer is None:
            return
        least, greatest = answer
        self.assertIs(type(answer), tuple)
        self.assertTrue(is_possible(with_value(sheet, day, back, least)))
        if least > 0:
            self.assertFalse(is_possible(with_value(sheet, day, back, least - 1)))
        if greatest is None:
            self.assertTrue(is_possible(with_value(sheet, day, back, least + HUGE * HUGE)))
        else:
            self.assertTrue(is_possible(with_value(sheet, day, back, greatest)))
            self.assertFalse(is_possible(with_value(sheet, day, back, greatest + 1)))


class ValueTest(SlipsTest):
    def test_worked_examples(self):
        # Of day 0, 0 + 3 - 4 and more come on day 1, and 4 and fewer come on days 0 and 1.
        self.assertEqual(value_range(PAPER, 0, 0), (1, 4))
        self.assertEqual(value_range(PAPER, 1, 0), (2, 4))
        self.assertEqual(value_range(PAPER, 1, 1), (3, 6))
        self.assertEqual(value_range(PAPER, 2, 0), (1, 4))
        self.assertEqual(value_range(PAPER, 2, 1), (3, 5))
        self.assertEqual(value_range([[7]], 0, 0), (0, None))
        self.assertEqual(value_range([[7], [2]], 1, 0), (0, None))
        # No family has the sheet: on days 0 and 1 there cannot be fewer visitors than on day 0.
        self.assertEqual(value_range([[4], [1, 2]], 0, 0), (1, 2))
        self.assertEqual(value_range([[4], [1, 2]], 1, 0), None)
        self.assertEqual(value_range([[4], [1, 2]], 1, 1), (4, 5))
        self.assertEqual(value_range([[HUGE], [HUGE, 0]], 1, 1), (HUGE, 2 * HUGE))

    def test_small_sheets_by_trying_all_values(self):
        seen = set()
        for sheet in small_cases_with_slips():
            for day, back in places(sheet):
                values, _ = values_by_trying(sheet, day, back)
                answer = value_range(sheet, day, back)
                self.assertEqual(answer, range_by_trying(sheet, day, back), (sheet, day, back))
                self.assertEqual(values, list(range(values[0], values[-1] + 1)) if values else [])
                ends = "none" if answer is None else "open" if answer[1] is None else len(values) > 1
                edges = (day == 0, day == len(sheet) - 1, back == 0, back == len(sheet[day]) - 1)
                seen.add((is_possible(sheet), ends) + edges)
        kinds = {told[:2] for told in seen}
        self.assertEqual({ends for possible, ends in kinds if possible}, {"open", False, True})
        # With width 1 each sheet is possible.
        self.assertEqual({ends for possible, ends in kinds if not possible}, {"none", False, True})
        # Of the first row, of the last one, and of others; its first number, its last one, and others.
        for told in ((True, False, True, True), (False, True, True, False), (False, True, False, True),
                     (False, False, True, False), (False, False, False, True), (False, False, False, False)):
            self.assertIn((True, True) + told, seen)
            self.assertTrue((False, True) + told in seen or (False, False) + told in seen)

    def test_no_greatest_value_with_width_1_alone(self):
        for sheet, _, count, width in possible_sheets():
            for day, back in places(sheet)[::5]:
                least, greatest = value_range(sheet, day, back)
                self.assertEqual(greatest is None, width == 1)
                self.assertEqual(width == 1, (least, greatest) == (0, None))
                self.assertTrue(least <= sheet[day][back])
                self.assertTrue(greatest is None or sheet[day][back] <= greatest)

    def test_large_sheets(self):
        rng = random.Random(52)
        for count in (5, 12, 30):
            for most in (9, HUGE):
                for width in widths(count)[1:]:
                    sheet = sheet_of(random_family(rng, count, 40, most), count, width)
                    slipped = rng.choice(places(sheet))
                    wrong = with_value(sheet, *slipped, sheet[slipped[0]][slipped[1]] + most * 100)
                    ends = [(0, 0), (1, 1), (count - 1, 0), (count - 1, width - 1)]
                    for day, back in ends + rng.sample(places(sheet), 3):
                        self.check_values(sheet, day, back)
                        self.check_values(wrong, day, back)
                    self.check_values(wrong, *slipped)
                    least, greatest = value_range(wrong, *slipped)
                    self.assertEqual((least, greatest), value_range(sheet, *slipped))

    def test_sheets_that_no_family_has(self):
        rng = random.Random(54)
        for sheet in impossible_sheets():
            for day, back in rng.sample(places(sheet), min(3, len(places(sheet)))):
                self.check_values(sheet, day, back)

    def test_wrong_sheets(self):
        for day, back in ((0, 0), (1, 1), (-1, 0), (0, 30)):
            self.check_wrong_sheets(value_range, day, back)

    def test_wrong_days_and_backs(self):
        for sheet in ([[4]], PAPER, sheet_of([], 30, 30), sheet_of([], 30, 1), impossible_sheets()[0], [[4], [1, 2]]):
            for day in (-HUGE, -1, len(sheet), len(sheet) + 1, HUGE):
                for back in (-1, 0, 1, HUGE):
                    self.check_error(InvalidDay, value_range, sheet, day, back)
            for day, row in enumerate(sheet):
                for back in (-HUGE, -2, -1, len(row), len(row) + 1, 30, HUGE):
                    self.check_error(InvalidDay, value_range, sheet, day, back)
                value_range(sheet, day, len(row) - 1)


class CorrectionsTest(SlipsTest):
    def test_worked_examples(self):
        self.assertEqual(corrections([[7]]), [(0, 0, 0, None)])
        self.assertEqual(corrections([[4], [1, 2]]), [(0, 0, 1, 2), (1, 1, 4, 5)])
        self.assertEqual(corrections(PAPER), [(0, 0, 1, 4), (1, 0, 2, 4), (1, 1, 3, 6), (2, 0, 1, 4), (2, 1, 3, 5)])
        # Both rows are wrong of themselves, and so is no number alone.
        self.assertEqual(corrections([[0], [0, 9], [0, 0], [0, 9]]), [])

    def check_corrections(self, sheet):
        answer = corrections(sheet)
        expected = []
        for day, back in places(sheet):
            values = value_range(sheet, day, back)
            if values is not None:
                expected.append((day, back) + values)
        self.assertEqual(answer, expected)
        self.assertEqual([told[:2] for told in answer], sorted({told[:2] for told in answer}))
        self.assertEqual({type(told) for told in answer} | {tuple}, {tuple})
        if is_possible(sheet):
            self.assertEqual([told[:2] for told in answer], places(sheet))

    def test_small_sheets(self):
        none = 0
        for sheet in small_cases_with_slips():
            self.check_corrections(sheet)
            none += corrections(sheet) == []
        self.assertGreater(none, 5)

    def test_any_sheets(self):
        for sheet in any_sheets():
            if len(places(sheet)) < 100:
                self.check_corrections(sheet)
        for sheet, _, count, width in possible_sheets():
            if (count, width) in ((12, 3), (20, 7), (30, 30)):
                self.check_corrections(sheet)

    def test_the_list_is_new(self):
        for sheet in (PAPER, [[4], [1, 2]], [[0], [0, 9], [0, 0], [0, 9]]):
            answer = corrections(sheet)
            expected = list(answer)
            answer.append(None)
            self.assertIsNot(corrections(sheet), answer)
            self.assertEqual(corrections(sheet), expected)

    def test_wrong_sheets(self):
        self.check_wrong_sheets(corrections)


class LeastTest(SlipsTest):
    def least_by_trying(self, sheet):
        changes = []
        for day, back in places(sheet):
            values, _ = values_by_trying(sheet, day, back)
            changes += [(abs(value - sheet[day][back]), day, back, value) for value in values]
        return min(changes)[1:] if changes else None

    def test_worked_examples(self):
        self.assertEqual(least_correction([[4], [1, 2]]), (0, 0, 2))
        self.assertEqual(least_correction([[4], [1, 3]]), (0, 0, 3))
        self.assertEqual(least_correction([[1], [1, 4]]), (0, 0, 3))
        self.assertEqual(least_correction([[9], [1, 7], [1, 2]]), (0, 0, 7))
        # Three visitors fewer on day 1, or three more on days 0 and 1: the least day, then the least back.
        self.assertEqual(least_correction([[2], [7, 4]]), (1, 0, 4))
        self.assertEqual(least_correction([[2], [7, 5], [7, 7]]), (1, 0, 5))
        self.assertEqual(least_correction([[2], [7, 5], [7, 14]]), (1, 1, 7))
        self.assertIsNone(least_correction([[0], [0, 9], [0, 0], [0, 9]]))

    def test_possible_sheets_need_no_change(self):
        for sheet, _, _, _ in possible_sheets():
            self.assertEqual(least_correction(sheet), (0, 0, sheet[0][0]))

    def test_small_sheets_by_trying_all_values(self):
        seen = []
        for sheet in small_cases_with_slips():
            answer = least_correction(sheet)
            self.assertEqual(answer, self.least_by_trying(sheet), sheet)
            seen.append(answer)
        self.assertGreater(seen.count(None), 5)
        self.assertGreater(len([answer for answer in seen if answer and answer[:2] != (0, 0)]), 10)

    def test_one_number_wrong(self):
        rng = random.Random(53)
        for count in (3, 8, 30):
            for width in widths(count)[1:]:
                sheet = sheet_of(random_family(rng, count, 50, HUGE), count, width)
                day, back = rng.choice(places(sheet))
                _, greatest = value_range(sheet, day, back)
                wrong = with_value(sheet, day, back, greatest + 1)
                found = least_correction(wrong)
                self.assertTrue(is_possible(with_value(wrong, *found)))
                # One more is the least change of all, and the first number that can be changed so much is taken.
                self.assertEqual(abs(wrong[found[0]][found[1]] - found[2]), 1)
                self.assertLessEqual(found[:2], (day, back))
                for other in places(sheet):
                    values = value_range(wrong, *other)
                    if other < found[:2] and values is not None:
                        told = wrong[other[0]][other[1]]
                        self.assertFalse(values[0] - 1 <= told <= values[1] + 1)

    def test_several_wrong(self):
        for count in (6, 30):
            sheet = sheet_of([((day,), 3) for day in range(count)], count, 2)
            wrong = with_value(with_value(sheet, 1, 1, 100), count - 1, 1, 100)
            self.assertIsNone(least_correction(wrong))
            self.assertEqual(corrections(wrong), [])

    def test_wrong_sheets(self):
        self.check_wrong_sheets(least_correction)


if __name__ == "__main__":
    unittest.main()
