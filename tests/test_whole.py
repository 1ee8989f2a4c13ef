"""What one function tells agrees with what another one tells of the same sheet."""

import itertools
import random
import unittest

from facesagain.both import both_family, both_range
from facesagain.ends import again_range, all_range, gone_range, new_range, next_range
from facesagain.families import has_sheet, is_family, joined_family, some_family
from facesagain.gaps import all_gaps, away_of, conflict_of, fresh_of, gap_of
from facesagain.live import Door
from facesagain.longer import longer_family, longer_paper, longer_range
from facesagain.patterns import daily_range, family_with, once_range, pattern_range
from facesagain.session import session
from facesagain.sheets import days_in, narrowed_sheet, sheet_of, unlike_of, visits_of, width_in
from facesagain.slips import corrections, least_correction, value_range
from facesagain.stretches import came_again, common_of
from facesagain.texts import read_family, read_sheet, write_family, write_sheet
from tests.samples import HUGE, draw_joins, random_family, unlike


def some_sheets():
    """Sheets of families of 1 to 30 days, with few and with many visitors."""
    rng = random.Random(91)
    found = []
    for count, share in ((1, 1), (2, 1), (3, 3), (6, 6), (11, 4), (30, 3)):
        for most in (3, HUGE // 100):
            family = random_family(rng, count, 15 + count, most)
            for width in sorted({1, count} | set(rng.sample(range(1, count + 1), min(share, count)))):
                found.append(sheet_of(family, count, width))
    return found


def told_families(rng, sheet):
    """Families of each kind that is told of a sheet."""
    count = len(sheet)
    found = [some_family(sheet), joined_family(sheet, draw_joins(rng, sheet, 0.7))]
    first = rng.randrange(count)
    last = rng.randrange(first, count)
    found += [longer_family(sheet, first, last, number) for number in longer_range(sheet, first, last)]
    for pattern in {(first,), tuple(sorted({first, last})), tuple(range(count))}:
        found += [family_with(sheet, pattern, number) for number in pattern_range(sheet, pattern)]
    if count > 1:
        first, second = sorted(rng.sample(range(count), 2))
        found += [both_family(sheet, first, second, number) for number in both_range(sheet, first, second)]
    return found


def many_who(family, tells):
    return sum(many for pattern, many in family if tells(pattern))


class WholeTest(unittest.TestCase):
    def check_within(self, number, ends):
        least, greatest = ends
        self.assertLessEqual(0, least)
        self.assertLessEqual(least, number)
        self.assertLessEqual(number, greatest)

    def check_family(self, rng, sheet, family):
        """All that is told of the sheet holds for a family that has it."""
        count = len(sheet)
        days = rng.sample(range(count), min(4, count))
        for day in days:
            self.check_within(many_who(family, lambda pattern: pattern[0] == day), new_range(sheet, day))
            self.check_within(
                many_who(family, lambda pattern: day in pattern and pattern[0] < day), again_range(sheet, day)
            )
            self.check_within(many_who(family, lambda pattern: pattern[-1] == day), gone_range(sheet, day))
            for within, number in enumerate(came_again(sheet, day), 1):
                later = range(day + 1, day + within + 1)
                self.assertEqual(number, many_who(family, lambda pattern: day in pattern and any(
                    other in pattern for other in later)))
        for first, second in itertools.combinations(sorted(days), 2):
            self.check_within(
                many_who(family, lambda pattern: (first, second) in zip(pattern, pattern[1:])),
                next_range(sheet, first, second),
            )
            self.check_within(
                many_who(family, lambda pattern: first in pattern and second in pattern),
                both_range(sheet, first, second),
            )
            self.check_within(unlike(family, first, second), longer_range(sheet, first, second))
        self.check_within(many_who(family, lambda pattern: True), all_range(sheet))
        self.check_within(many_who(family, lambda pattern: len(pattern) == count), daily_range(sheet))
        if width_in(sheet) == count:
            self.check_within(many_who(family, lambda pattern: len(pattern) == 1), once_range(sheet))
        for pattern, many in family[:3]:
            self.check_within(many, pattern_range(sheet, pattern))

    def test_families_that_are_told(self):
        rng = random.Random(92)
        for sheet in some_sheets():
            for family in told_families(rng, sheet):
                self.assertIs(is_family(family, len(sheet)), True)
                self.assertIs(has_sheet(sheet, family), True)
                self.assertEqual(sheet_of(family, days_in(sheet), width_in(sheet)), sheet)
                self.check_family(rng, sheet, family)
                if max([many for _, many in family], default=0) <= HUGE:
                    self.assertEqual(read_family(write_family(family)), family)

    def test_ranges_by_one_another(self):
        for sheet in some_sheets():
            count, width = days_in(sheet), width_in(sheet)
            self.assertEqual(all_range(sheet), longer_range(sheet, 0, count - 1))
            self.assertEqual(daily_range(sheet), pattern_range(sheet, tuple(range(count))))
            for day in range(count):
                visits = visits_of(sheet, day)
                self.assertEqual(visits, unlike_of(sheet, day, day))
                self.assertEqual(longer_range(sheet, day, day), (visits, visits))
                new, again = new_range(sheet, day), again_range(sheet, day)
                self.assertEqual((new[0] + again[1], new[1] + again[0]), (visits, visits))
                self.assertEqual(new[1], fresh_of(sheet, day))
                self.assertEqual(gone_range(sheet, day)[1], away_of(sheet, day))
                ends = range(day + 1, min(day + width, count))
                self.assertEqual(came_again(sheet, day), [common_of(sheet, day, day, day + 1, end) for end in ends])
                for later in ends:
                    gap = gap_of(sheet, day, later)
                    self.assertEqual(next_range(sheet, day, later), (gap, gap))
                    self.assertEqual((day, later, gap) in all_gaps(sheet), gap > 0)
            if count == width:
                once = [pattern_range(sheet, (day,)) for day in range(count)]
                self.assertEqual(once_range(sheet), (sum(ends[0] for ends in once), sum(ends[1] for ends in once)))

    def test_neighbours_and_longer_stretches(self):
        for sheet in some_sheets():
            count, width = days_in(sheet), width_in(sheet)
            for day in range(count - 1):
                visits = visits_of(sheet, day) + visits_of(sheet, day + 1)
                least, greatest = longer_range(sheet, day, day + 1)
                # Of two days it is the same to tell how many came on both, or on at least one.
                self.assertEqual(both_range(sheet, day, day + 1), (visits - greatest, visits - least))
            if width < count:
                self.assertIn(longer_paper(sheet, 0, count - 1), range(count - width + 1))

    def test_a_wider_sheet_tells_more(self):
        rng = random.Random(93)
        for sheet in some_sheets():
            count, width = days_in(sheet), width_in(sheet)
            narrow = narrowed_sheet(sheet, rng.randint(1, width))
            first = rng.randrange(count)
            last = rng.randrange(first, count)
            calls = [(all_range, ()), (daily_range, ()), (new_range, (first,)), (gone_range, (last,)),
                     (longer_range, (first, last)), (pattern_range, ((first,),)), (again_range, (last,))]
            if first < last:
                calls += [(both_range, (first, last)), (next_range, (first, last)), (pattern_range, ((first, last),))]
            for call, told in calls:
                wide, outer = call(sheet, *told), call(narrow, *told)
                self.assertLessEqual(outer[0], wide[0])
                self.assertLessEqual(wide[1], outer[1])

    def test_slips(self):
        rng = random.Random(94)
        for sheet in some_sheets():
            found = corrections(sheet)
            self.assertEqual(len(found), sum(map(len, sheet)))
            self.assertEqual(least_correction(sheet), (0, 0, visits_of(sheet, 0)))
            for day, back, least, greatest in rng.sample(found, min(6, len(found))):
                self.assertEqual(value_range(sheet, day, back), (least, greatest))
                self.assertEqual(unlike_of(sheet, day - back, day), sheet[day][back])
                for value in (least, least + 1 if greatest is None else greatest):
                    changed = [list(row) for row in sheet]
                    changed[day][back] = value
                    self.assertIsNone(conflict_of(changed))
                    self.assertIs(has_sheet(changed, some_family(changed)), True)

    def test_doors_and_sessions(self):
        rng = random.Random(95)
        for sheet in some_sheets():
            count, width = days_in(sheet), width_in(sheet)
            door = Door(width)
            for row in sheet:
                door.add(row)
            self.assertEqual(door.sheet, sheet)
            self.assertEqual(door.month(0, count - 1), all_range(sheet))
            text = write_sheet(sheet)
            self.assertEqual(read_sheet(text), sheet)
            first = rng.randrange(count)
            last = rng.randrange(first, count)
            lines = [f"door {width}"] + ["add " + word for word in text.split(" ")]
            asked = ["days", "sheet", "all", f"new {first}", f"gone {last}", f"month {first} {last}"]
            ranges = [all_range(sheet), new_range(sheet, first), gone_range(sheet, last), door.month(first, last)]
            if first < last:
                asked.append(f"both {first} {last}")
                ranges.append(both_range(sheet, first, last))
            answers = session("\n".join(lines + asked)).split("\n")
            expected = ["ok"] * len(lines) + [str(count), text] + [f"{least}..{most}" for least, most in ranges]
            self.assertEqual(answers, expected)
            self.assertEqual(door.month(first, last), longer_range(sheet, first, last))


if __name__ == "__main__":
    unittest.main()
