import copy
import random
import unittest

from facesagain.errors import Impossible, InvalidDay, InvalidIndex, InvalidRow, InvalidWidth, NothingToUndo
from facesagain.gaps import conflict_of
from facesagain.live import Door
from facesagain.longer import longer_range
from facesagain.sheets import sheet_of
from tests.samples import HUGE, OBJECTS, PAPER, WRONG_NUMBERS, random_family, sheet_by_hand, widths
from tests.wrong import WrongCalls


def door_of(sheet, width):
    door = Door(width)
    for row in sheet:
        door.add(row)
    return door


class DoorTest(WrongCalls):
    def check_door(self, door, sheet, width):
        self.assertEqual(door.sheet, sheet)
        self.assertEqual(door.width, width)
        self.assertEqual(door.mark(), len(sheet))
        self.assertEqual(len(door), len(sheet))

    def check_refused(self, expected, door, call, *told):
        """The call raises exactly this class, and nothing changes."""
        sheet, width = door.sheet, door.width
        error = self.check_error(expected, call, *told)
        self.check_door(door, sheet, width)
        return error


class DaysTest(DoorTest):
    def test_without_days(self):
        for width in range(1, 31):
            door = Door(width)
            self.check_door(door, [], width)
            self.assertEqual(door.sheet, [])
            self.assertIs(type(door.sheet), list)

    def test_each_width_day_by_day(self):
        rng = random.Random(61)
        for width in range(1, 31):
            whole = sheet_of(random_family(rng, 30, 40, rng.choice([3, HUGE])), 30, 30)
            sheet = [row[:width] for row in whole]
            door = Door(width)
            for day in range(30):
                self.assertIsNone(door.add(sheet[day]))
                self.check_door(door, sheet[:day + 1], width)

    def test_by_name(self):
        door = Door(width=2)
        for row in PAPER:
            self.assertIsNone(door.add(row=row))
        self.assertEqual(door.month(first=0, last=2), (4, 5))
        self.assertEqual(door.month(last=2, first=0), (4, 5))
        self.assertIsNone(door.undo_to(index=1))
        self.check_door(door, PAPER[:1], 2)

    def test_wrong_widths(self):
        for width in (-HUGE, -1, 0, 31, 32, HUGE):
            self.check_error(InvalidWidth, Door, width)

    def test_identity(self):
        one, other = door_of(PAPER, 2), door_of(PAPER, 2)
        self.assertTrue(one == one)
        self.assertTrue(one != other)
        self.assertFalse(one == other)
        self.assertFalse(one == one.twin())

    def test_a_row_may_be_changed_later(self):
        door = Door(3)
        row = [2]
        door.add(row)
        row[0] = 9
        row.append(4)
        self.check_door(door, [[2]], 3)
        row = [5, 6]
        door.add(row)
        row.clear()
        self.check_door(door, [[2], [5, 6]], 3)
        self.assertEqual(door.month(0, 1), (6, 6))

    def test_a_row_is_not_changed(self):
        door = Door(2)
        for row in PAPER:
            mine = list(row)
            door.add(mine)
            self.assertEqual(mine, row)
        with self.assertRaises(Impossible):
            mine = [0, 9]
            door.add(mine)
        self.assertEqual(mine, [0, 9])

    def test_one_row_added_twice(self):
        door = Door(1)
        row = [3]
        door.add(row)
        door.add(row)
        sheet = door.sheet
        self.assertIsNot(sheet[0], sheet[1])
        sheet[0].append(1)
        self.check_door(door, [[3], [3]], 1)

    def test_the_sheet_that_is_returned_may_be_changed(self):
        door = door_of(PAPER, 2)
        for _ in range(2):
            sheet = door.sheet
            sheet[0][0] = 77
            sheet[1].append(1)
            sheet.pop()
            self.check_door(door, PAPER, 2)
        self.assertIsNot(door.sheet, door.sheet)
        self.assertIsNot(door.sheet[0], door.sheet[0])
        empty = Door(4)
        empty.sheet.append([1])
        self.check_door(empty, [], 4)

    def test_nothing_is_raised_for_more_than_30_days(self):
        door = Door(2)
        for day in range(33):
            door.add([1] if day == 0 else [1, 1])
        self.assertEqual(len(door), 33)
        self.assertEqual(door.month(0, 32), (1, 1))
        door.undo_to(31)
        self.assertEqual(door.mark(), 31)


class WrongRowTest(DoorTest):
    # Doors with days, and a row that can be added then.
    CASES = [(1, [], [4]), (7, [], [4]), (1, [[4]], [3]), (2, [[3]], [3, 4]), (2, PAPER[:2], [2, 4]),
             (3, [[3], [3, 4]], [2, 4, 5])]

    def test_right_rows(self):
        for width, sheet, row in self.CASES:
            door = door_of(sheet, width)
            self.assertIsNone(door.add(row))
            self.check_door(door, sheet + [row], width)

    def test_no_lists(self):
        for width, sheet, row in self.CASES:
            door = door_of(sheet, width)
            others = [tuple(row), str(row), row[0], {0: row[0]}, [row], [tuple(row)], dict.fromkeys(row), door, None]
            for thing in others + [thing for thing in OBJECTS if thing != [1]]:
                self.check_refused(InvalidRow, door, door.add, thing)

    def test_another_length(self):
        for width, sheet, row in self.CASES:
            door = door_of(sheet, width)
            for length in list(range(9)) + [30, 31, 4000]:
                if length != len(row):
                    self.check_refused(InvalidRow, door, door.add, (row * length)[:length])
                    self.check_refused(InvalidRow, door, door.add, [0] * length)
        for width in (1, 2, 29, 30):
            door = Door(width)
            for day in range(30):
                for length in {0, day, day + 2, width - 1, width + 1} - {min(day + 1, width)}:
                    self.check_error(InvalidRow, door.add, [0] * length)
                door.add([0] * min(day + 1, width))

    def test_one_thing_wrong_at_each_place(self):
        for width, sheet, row in self.CASES:
            door = door_of(sheet, width)
            for at in range(len(row)):
                for other in WRONG_NUMBERS:
                    self.check_refused(InvalidRow, door, door.add, row[:at] + [other] + row[at + 1:])

    def test_wrong_rows_come_ahead_of_impossible_sheets(self):
        door = door_of([[4]], 3)
        self.check_refused(Impossible, door, door.add, [0, 9])
        self.check_refused(InvalidRow, door, door.add, [-1, 9])
        self.check_refused(InvalidRow, door, door.add, [9])
        self.check_refused(InvalidRow, door, door.add, [True, 9])


class ImpossibleTest(DoorTest):
    def check_impossible_row(self, door, row):
        error = self.check_refused(Impossible, door, door.add, row)
        conflict = conflict_of(door.sheet + [row])
        self.assertEqual((error.word, error.first, error.second), conflict)
        return conflict

    def test_worked_examples(self):
        door = door_of([[4]], 2)
        self.assertEqual(self.check_impossible_row(door, [1, 2]), ("fresh", 0, 1))
        self.assertEqual(self.check_impossible_row(door, [5, 4]), ("away", 0, 1))
        self.assertEqual(self.check_impossible_row(door, [1, 6]), ("gap", 0, 1))
        door.add([1, 5])
        self.assertEqual(self.check_impossible_row(door, [3, 5]), ("gap", 1, 2))
        self.check_door(door, [[4], [1, 5]], 2)

    def test_drawn_rows(self):
        rng = random.Random(62)
        words = []
        for count in (2, 3, 5, 9, 30):
            for width in widths(count)[1:]:
                sheet = sheet_of(random_family(rng, count, 20, 5), count, width)
                door = Door(width)
                for row in sheet:
                    for _ in range(4):
                        wrong = [max(0, number + rng.choice([0, 0, -1, 1, 9, HUGE])) for number in row]
                        if conflict_of(door.sheet + [wrong]) is not None:
                            words.append(self.check_impossible_row(door, wrong)[0])
                    door.add(row)
                self.check_door(door, sheet, width)
        for word in ("gap", "away", "fresh"):
            self.assertGreater(words.count(word), 5)

    def test_a_day_behind_a_refused_one(self):
        door = door_of(PAPER, 2)
        self.check_impossible_row(door, [1, 9])
        door.add([1, 2])
        self.check_door(door, PAPER + [[1, 2]], 2)
        door.undo()
        self.check_door(door, PAPER, 2)


class UndoTest(DoorTest):
    def test_undo(self):
        for width in (1, 2, 5, 30):
            sheet = sheet_by_hand([((0, 3), 2), ((1,), 1), ((2, 4), 3)], 5, min(width, 5))
            door = door_of(sheet, width)
            for left in range(4, -1, -1):
                self.assertIsNone(door.undo())
                self.check_door(door, sheet[:left], width)
            for _ in range(2):
                self.check_refused(NothingToUndo, door, door.undo)
            for row in sheet:
                door.add(row)
            self.check_door(door, sheet, width)

    def test_nothing_to_undo_in_a_new_door(self):
        door = Door(3)
        self.check_refused(NothingToUndo, door, door.undo)

    def test_undo_to(self):
        sheet = sheet_of([((day,), day + 1) for day in range(30)], 30, 3)
        for index in (0, 1, 2, 15, 29, 30):
            door = door_of(sheet, 3)
            self.assertIsNone(door.undo_to(index))
            self.check_door(door, sheet[:index], 3)
            for row in sheet[index:]:
                door.add(row)
            self.check_door(door, sheet, 3)

    def test_undo_to_beside_the_days(self):
        for days in (0, 1, 3):
            door = door_of(PAPER[:days], 2)
            for index in (-HUGE, -2, -1, days + 1, days + 2, HUGE):
                self.check_refused(InvalidIndex, door, door.undo_to, index)
            self.assertIsNone(door.undo_to(days))
            self.check_door(door, PAPER[:days], 2)
            self.assertIsNone(door.undo_to(0))
            self.check_door(door, [], 2)

    def test_back_to_a_mark(self):
        door = door_of(PAPER[:1], 2)
        mark = door.mark()
        door.add(PAPER[1])
        door.add(PAPER[2])
        door.undo_to(mark)
        self.check_door(door, PAPER[:1], 2)
        # The last add that was not undone is the one of day 0.
        door.undo()
        self.check_door(door, [], 2)


class TwinTest(DoorTest):
    def test_a_twin_goes_its_own_way(self):
        for days in (0, 1, 2, 3):
            door = door_of(PAPER[:days], 2)
            twin = door.twin()
            self.assertIs(type(twin), Door)
            self.assertIsNot(twin, door)
            self.check_door(twin, PAPER[:days], 2)
            row = [7] if days == 0 else [0, PAPER[days - 1][0]]
            twin.add(row)
            self.check_door(door, PAPER[:days], 2)
            self.check_door(twin, PAPER[:days] + [row], 2)
            twin.undo_to(0)
            self.check_door(door, PAPER[:days], 2)
            self.check_refused(NothingToUndo, twin, twin.undo)

    def test_the_door_goes_its_own_way_too(self):
        door = door_of(PAPER, 2)
        twin = door.twin()
        other = twin.twin()
        door.undo()
        door.add([0, 3])
        twin.undo_to(1)
        self.check_door(door, PAPER[:2] + [[0, 3]], 2)
        self.check_door(twin, PAPER[:1], 2)
        self.check_door(other, PAPER, 2)
        other.undo()
        self.check_door(other, PAPER[:2], 2)

    def test_a_twin_keeps_the_width(self):
        for width in (1, 7, 30):
            self.check_door(Door(width).twin(), [], width)


class MonthTest(DoorTest):
    def test_worked_examples(self):
        door = door_of(PAPER, 2)
        self.assertEqual(door.month(0, 2), (4, 5))
        self.assertEqual(door.month(0, 1), (4, 4))
        self.assertEqual(door.month(2, 2), (2, 2))

    def test_as_the_longer_range(self):
        rng = random.Random(63)
        for count in (1, 2, 5, 12, 30):
            for width in widths(count):
                sheet = sheet_of(random_family(rng, count, 30, HUGE), count, width)
                door = Door(width)
                for row in sheet:
                    door.add(row)
                    days = len(door)
                    for first in range(0, days, 3):
                        for last in range(first, days, 4):
                            answer = door.month(first, last)
                            self.assertIs(type(answer), tuple)
                            self.assertEqual(answer, longer_range(sheet[:days], first, last))

    def test_a_door_that_is_wider_than_its_days(self):
        sheet = sheet_by_hand([((0, 2), 3), ((1,), 2)], 3, 3)
        door = door_of(sheet, 30)
        self.assertEqual(door.month(0, 2), (5, 5))
        self.assertEqual(door.month(1, 2), (5, 5))
        self.assertEqual(door.month(0, 0), (3, 3))

    def test_days_that_are_not_there(self):
        for width in (1, 2, 30):
            for days in (0, 1, 2, 3):
                door = door_of(sheet_of([], days, min(width, days)) if days else [], width)
                for first in list(range(-2, days + 3)) + [-HUGE, HUGE]:
                    for last in list(range(-2, days + 3)) + [-HUGE, HUGE]:
                        if 0 <= first <= last < days:
                            self.assertEqual(door.month(first, last), (0, 0))
                        else:
                            self.check_refused(InvalidDay, door, door.month, first, last)

    def test_days_that_were_undone(self):
        door = door_of(PAPER, 2)
        door.undo()
        self.check_refused(InvalidDay, door, door.month, 0, 2)
        self.assertEqual(door.month(0, 1), (4, 4))


class DrawnTest(DoorTest):
    def test_drawn_calls(self):
        """Doors against plain lists of rows, by drawn calls."""
        rng = random.Random(64)
        for _ in range(40):
            width = rng.choice([1, 2, 3, 7, 30])
            doors = [(Door(width), [])]
            for _ in range(60):
                at = rng.randrange(len(doors))
                door, rows = doors[at]
                kind = rng.choice(["add", "add", "add", "wrong", "undo", "undo_to", "twin"])
                length = min(len(rows) + 1, width)
                if kind == "add":
                    row = sorted(rng.randint(0, 3) for _ in range(length))
                    if conflict_of(rows + [row]) is None and len(rows) < 30:
                        door.add(row)
                        rows.append(row)
                    elif len(rows) < 30:
                        self.check_refused(Impossible, door, door.add, row)
                elif kind == "wrong":
                    self.check_refused(InvalidRow, door, door.add, [0] * (length + 1))
                elif kind == "undo" and rows:
                    door.undo()
                    rows.pop()
                elif kind == "undo":
                    self.check_refused(NothingToUndo, door, door.undo)
                elif kind == "undo_to":
                    index = rng.randint(0, len(rows) + 1)
                    if index > len(rows):
                        self.check_refused(InvalidIndex, door, door.undo_to, index)
                    else:
                        door.undo_to(index)
                        del rows[index:]
                else:
                    doors.append((door.twin(), copy.deepcopy(rows)))
                for other, own in doors:
                    self.check_door(other, own, width)


if __name__ == "__main__":
    unittest.main()
