import random
import unittest

from facesagain.errors import InvalidCount, InvalidJoins
from facesagain.families import has_sheet, is_family, joined_family, some_family
from facesagain.gaps import away_of, fresh_of
from facesagain.sheets import sheet_of
from tests.samples import (
    HUGE, OBJECTS, PAPER, all_families, draw_joins, families, impossible_sheets, is_plain_family, joins_in,
    large_cases, many_groups, possible_sheets, sheet_by_hand, small_cases, widths, wrong_families,
)
from tests.wrong import WrongCalls

# Each of these in the place of a part is wrong somewhere, and often everywhere.
PARTS = [
    None, True, False, -1, -HUGE, 0, 1, 3, 29, 30, HUGE, "", "0", "a", [], [0], [0, 1], (), (0,), (1,), (0, 0), (1, 0),
    (True,), (False,), (0, True), (-1,), (29,), (30,), ("0",), (None,), ((0,),), ((0,), 1), ((0,), 0), ((0,), True),
    ([0], 1), ((), 1), ((0,),), ((0,), 1, 1), {}, {"0": 1}, [((0,), 1)],
]


def with_one_changed(parts):
    """Lists in which one part was put in, left out or changed."""
    parts = list(parts)
    for at in range(len(parts) + 1):
        for other in PARTS + parts:
            yield parts[:at] + [other] + parts[at:]
            if at < len(parts):
                yield parts[:at] + [other] + parts[at + 1:]
        yield parts[:at] + parts[at + 1:]


def with_one_thing_changed(family):
    """Lists in which one thing, at any depth of the family, was put in, left out or changed."""
    yield from with_one_changed(family)
    for at, (pattern, many) in enumerate(family):
        groups = [tuple(group) for group in with_one_changed((pattern, many))] + [[pattern, many]]
        groups += [(tuple(days), many) for days in with_one_changed(pattern)] + [(list(pattern), many)]
        for group in groups:
            yield family[:at] + [group] + family[at + 1:]


class IsFamilyTest(WrongCalls):
    def test_families_and_their_last_day(self):
        for family, _ in families():
            latest = max([pattern[-1] for pattern, _ in family], default=-1)
            for count in range(1, 31):
                self.assertIs(is_family(family, count), latest < count)

    def test_the_empty_list(self):
        for count in (1, 2, 29, 30):
            self.assertIs(is_family([], count), True)
            self.assertIs(is_family((), count), False)

    def test_the_most_patterns(self):
        self.assertIs(is_family(many_groups(2000), 11), True)
        self.assertIs(is_family(many_groups(2000), 30), True)
        self.assertIs(is_family(many_groups(2000), 10), False)
        self.assertIs(is_family(many_groups(2001), 30), False)

    def test_days_just_inside(self):
        for count in range(1, 31):
            self.assertIs(is_family([((count - 1,), 1)], count), True)
            self.assertIs(is_family([(tuple(range(count)), HUGE)], count), True)
            self.assertIs(is_family([((count,), 1)], count), False)
            self.assertIs(is_family([(tuple(range(count + 1)), 1)], count), False)
            self.assertIs(is_family([((-1,), 1)], count), False)

    def test_wrong_families(self):
        for thing in wrong_families():
            for count in (1, 3, 30):
                self.assertIs(is_family(thing, count), False, thing)

    def test_one_thing_wrong(self):
        seen = {True: 0, False: 0}
        good = [((0,), 1), ((0, 2), 3), ((0, 2, 3), HUGE), ((1,), 2), ((5, 7, 29), 1)]
        for family in (good, good[:1], good[3:], [((29,), 1)]):
            for thing in with_one_thing_changed(family):
                for count in (3, 30):
                    expected = is_plain_family(thing, count)
                    self.assertIs(is_family(thing, count), expected, (thing, count))
                    seen[expected] += 1
        self.assertGreater(seen[True], 50)
        self.assertGreater(seen[False], 1000)

    def test_any_object(self):
        nested = []
        for _ in range(19):
            nested = [nested]
        for thing in OBJECTS + [nested, [((nested,), 1)], [nested] * 100, {"a": [((0,), 1)]}, "[((0,), 1)]"]:
            for count in (1, 30):
                self.assertIs(is_family(thing, count), thing == [], thing)

    def test_wrong_counts(self):
        for count in (-HUGE, -30, -1, 0, 31, 32, HUGE):
            for thing in ([], [((0,), 1)], [((30,), 1)], None, "x"):
                self.check_error(InvalidCount, is_family, thing, count)


class HasSheetTest(WrongCalls):
    def test_sheets_of_families(self):
        for sheet, family, _, _ in possible_sheets():
            self.assertIs(has_sheet(sheet, family), True)
        self.assertIs(has_sheet(sheet_of(many_groups(2000), 11, 4), many_groups(2000)), True)

    def test_just_all_families_of_small_sheets(self):
        cases = small_cases()
        for sheet, own in cases:
            for other, others in cases:
                if len(other) <= len(sheet):
                    for family in others:
                        self.assertIs(has_sheet(sheet, family), family in own)

    def test_several_families_of_one_sheet(self):
        found = all_families(PAPER)
        self.assertIn([((0,), 1), ((0, 1), 2), ((1, 2), 1), ((2,), 1)], found)
        self.assertIn([((0,), 1), ((0, 1), 1), ((0, 1, 2), 1), ((1,), 1), ((2,), 1)], found)
        self.assertIn([((0, 1), 2), ((0, 2), 1), ((1, 2), 1)], found)
        for family in found:
            self.assertIs(has_sheet(PAPER, family), True)

    def test_one_thing_changed(self):
        seen = {True: 0, False: 0}
        for family, count in (([((0,), 1), ((0, 2), 3), ((1,), 2), ((1, 3), 1)], 4), ([((0, 1, 2), 1)], 3)):
            for width in range(1, count + 1):
                sheet = sheet_by_hand(family, count, width)
                for thing in with_one_thing_changed(family):
                    expected = is_plain_family(thing, count) and sheet_by_hand(thing, count, width) == sheet
                    self.assertIs(has_sheet(sheet, thing), expected, (sheet, thing))
                    seen[expected] += 1
        self.assertGreater(seen[True], 5)
        self.assertGreater(seen[False], 1000)

    def test_many_by_one(self):
        for sheet, family, _, _ in possible_sheets():
            if family:
                (pattern, many), *rest = family
                self.assertIs(has_sheet(sheet, [(pattern, many + 1)] + rest), False)
                self.assertIs(has_sheet(sheet, [(pattern, many - 1)] + rest), False)
                self.assertIs(has_sheet(sheet, rest), False)

    def test_days_that_the_sheet_does_not_have(self):
        for sheet, family, count, _ in possible_sheets():
            if count < 30:
                self.assertIs(has_sheet(sheet, family + [((count,), 1)]), False)
                self.assertIs(has_sheet(sheet, family + [((29,), 1)]), False)
                changed = family[:-1] + [(pattern + (count,), many) for pattern, many in family[-1:]]
                self.assertIs(has_sheet(sheet, changed), changed == [])

    def test_sheets_that_no_family_has(self):
        some = [family for family, _ in families()] + [[((0,), 1), ((0, 1), 1)], many_groups(2000)]
        for sheet in impossible_sheets():
            for thing in some[:12] + some[-2:] + [None, [None], ((0,), 1)]:
                self.assertIs(has_sheet(sheet, thing), False)

    def test_any_object(self):
        for thing in OBJECTS:
            for sheet in ([[0]], [[0], [0, 0]], [[0]] * 30):
                self.assertIs(has_sheet(sheet, thing), thing == [], thing)
            self.assertIs(has_sheet(PAPER, thing), False)
            self.assertIs(has_sheet(impossible_sheets()[0], thing), False)
        for thing in wrong_families():
            self.assertIs(has_sheet(PAPER, thing), False)
            self.assertIs(has_sheet([[0]] * 30, thing), False)

    def test_wrong_sheets(self):
        for thing in ([], [((0,), 1)], [((30,), 1)], None, [[1]]):
            self.check_wrong_sheets(has_sheet, thing)

    def test_a_sheet_is_no_family(self):
        self.assertIs(has_sheet(PAPER, PAPER), False)
        self.assertIs(has_sheet([[0]], [[0]]), False)


class FamilyTest(WrongCalls):
    def check_joins(self, sheet, joins):
        family = joined_family(sheet, joins)
        self.check_family(sheet, family)
        expected = {(first, second): number for first, second, number in joins}
        self.assertEqual(joins_in(family, len(sheet[-1])), expected)


class SomeFamilyTest(FamilyTest):
    def test_worked_examples(self):
        self.assertEqual(some_family([[0]]), [])
        self.assertEqual(some_family([[7]]), [((0,), 7)])
        self.assertEqual(some_family([[HUGE], [0, HUGE]]), [((0,), HUGE)])
        self.assertEqual(some_family([[2], [2, 2]]), [((0, 1), 2)])

    def test_the_sheet_of_noughts_has_one_family(self):
        for count in range(1, 31):
            for width in widths(count):
                self.assertEqual(some_family(sheet_of([], count, width)), [])

    def test_possible_sheets(self):
        for sheet, _, _, _ in possible_sheets():
            self.check_family(sheet, some_family(sheet))

    def test_each_width(self):
        rng = random.Random(5)
        for most in (2, HUGE):
            for count in range(1, 31):
                pairs = [(a,) if a == b else (a, b) for a in range(count) for b in range(a, count)]
                whole = sheet_of([(pair, rng.randint(1, most)) for pair in sorted(pairs)], count, count)
                for width in range(1, count + 1):
                    sheet = [row[:width] for row in whole]
                    self.check_family(sheet, some_family(sheet))

    def test_one_of_all_families(self):
        for sheet, own in small_cases():
            self.assertIn(some_family(sheet), own)

    def test_wrong_sheets(self):
        self.check_wrong_sheets(some_family)

    def test_where_each_day_deals_out_to_many(self):
        family = many_groups(2000)
        for count in (11, 30):
            for width in (1, 6, 11, count):
                sheet = sheet_of(family, count, width)
                self.check_family(sheet, some_family(sheet))


class JoinedFamilyTest(FamilyTest):
    def test_worked_examples(self):
        self.assertEqual(joined_family([[2], [3]], [(0, 1, 1)]), [((0,), 1), ((0, 1), 1), ((1,), 2)])
        self.assertEqual(joined_family([[2], [3]], [(0, 1, 2)]), [((0, 1), 2), ((1,), 1)])
        self.assertEqual(joined_family([[2], [3]], []), [((0,), 2), ((1,), 3)])
        self.assertEqual(joined_family([[1], [1], [1]], [(0, 1, 1), (1, 2, 1)]), [((0, 1, 2), 1)])
        self.assertEqual(joined_family([[1], [1], [1]], [(0, 2, 1)]), [((0, 2), 1), ((1,), 1)])

    def test_no_joins(self):
        for sheet, _, _, _ in possible_sheets():
            self.check_joins(sheet, [])

    def test_drawn_joins(self):
        rng = random.Random(6)
        many = 0
        for sheet in [sheet for sheet, _, count, _ in possible_sheets() if count <= 12] + large_cases():
            for share in (0.1, 0.5, 0.9, 1):
                joins = draw_joins(rng, sheet, share)
                self.check_joins(sheet, joins)
                many += len(joins) > 3
        self.assertGreater(many, 100)

    def test_joins_of_all_families_of_small_sheets(self):
        for sheet, own in small_cases():
            width = len(sheet[-1])
            for family in own:
                joins = sorted((first, second, number) for (first, second), number in joins_in(family, width).items())
                self.check_joins(sheet, joins)
                self.assertIn(joined_family(sheet, joins), own)

    def test_all_that_a_day_lets(self):
        sheet = sheet_of([((0,), 3), ((1,), 2), ((4,), 4), ((5,), 5)], 6, 2)
        for joins in (
            [(0, 4, 3)], [(0, 5, 3)], [(0, 4, 3), (1, 4, 1)], [(0, 4, 1), (0, 5, 2)], [(0, 5, 3), (1, 5, 2)],
            [(0, 4, 2), (0, 5, 1), (1, 4, 2)], [(0, 4, 3), (1, 4, 1), (1, 5, 1)],
        ):
            self.check_joins(sheet, joins)


class WrongJoinsTest(FamilyTest):
    # Day 0 has 6 away, day 1 has 5, day 3 has 4 fresh, day 4 has 3; the width is 2.
    SHEET = [[6], [5, 11], [0, 5], [4, 4], [3, 7]]
    GOOD = [(0, 3, 1), (0, 4, 2), (1, 3, 1), (1, 4, 1)]

    def test_not_a_list(self):
        for thing in [thing for thing in OBJECTS if thing != []] + [tuple(self.GOOD), (), {(0, 3): 1}, "(0, 3, 1)"]:
            for sheet in (PAPER, self.SHEET, [[0]] * 30, impossible_sheets()[0]):
                self.check_error(InvalidJoins, joined_family, sheet, thing)

    def test_one_thing_wrong(self):
        good = self.GOOD
        self.check_joins(self.SHEET, good)
        for at in range(len(good)):
            for place in range(3):
                for other in [None, True, False, -1, -HUGE, "1", "", (), (1,), [1], {}, HUGE]:
                    join = good[at][:place] + (other,) + good[at][place + 1:]
                    self.check_error(InvalidJoins, joined_family, self.SHEET, good[:at] + [join] + good[at + 1:])
            for other in PARTS + [list(good[at]), good[at][:2], good[at] + (1,), (good[at],), good[at] + good[at]]:
                self.check_error(InvalidJoins, joined_family, self.SHEET, good[:at] + [other] + good[at + 1:])
                self.check_error(InvalidJoins, joined_family, self.SHEET, good[:at] + [other] + good[at:])

    def test_days_out_of_range_and_too_near(self):
        for count, width in ((1, 1), (2, 1), (3, 2), (4, 1), (6, 3), (30, 7), (30, 30)):
            sheet = sheet_of([((day,), 2) for day in range(count)], count, width)
            for first in range(-2, count + 2):
                for second in range(-2, count + 2):
                    if 0 <= first and first + width <= second < count:
                        self.check_joins(sheet, [(first, second, 1)])
                        self.check_joins(sheet, [(first, second, 2)])
                        self.check_error(InvalidJoins, joined_family, sheet, [(first, second, 3)])
                        self.check_error(InvalidJoins, joined_family, sheet, [(first, second, 0)])
                        self.check_error(InvalidJoins, joined_family, sheet, [(first, second, -1)])
                    else:
                        self.check_error(InvalidJoins, joined_family, sheet, [(first, second, 1)])

    def test_booleans(self):
        sheet = [[3], [3], [3]]
        self.check_joins(sheet, [(0, 1, 1)])
        for join in ((False, 1, 1), (0, True, 1), (0, 1, True), (0, 1, False), (True, 2, 1), (False, True, True)):
            self.check_error(InvalidJoins, joined_family, sheet, [join])

    def test_wrong_sheets(self):
        for joins in ([], [(0, 1, 1)], [(0, 0, 1)], None):
            self.check_wrong_sheets(joined_family, joins)

    def test_order(self):
        sheet = sheet_of([((day,), 50) for day in range(5)], 5, 1)
        good = [(0, 1, 3), (0, 2, 1), (0, 4, 9), (1, 2, 2), (3, 4, 1)]
        self.check_joins(sheet, good)
        for at in range(len(good)):
            for to in range(len(good)):
                moved = good[:at] + good[at + 1:]
                moved.insert(to, good[at])
                if moved != good:
                    self.check_error(InvalidJoins, joined_family, sheet, moved)
            for number in (1, 2, 3, 9, 10):
                twice = sorted(good + [good[at][:2] + (number,)])
                self.check_error(InvalidJoins, joined_family, sheet, twice)
                self.check_error(InvalidJoins, joined_family, sheet, good[:at] + [good[at][:2] + (number,)] + good[at:])

    def test_more_than_one_day_lets(self):
        sheet = sheet_of([((0,), 3), ((1,), 2), ((4,), 4), ((5,), 5)], 6, 2)
        for joins in (
            [(0, 4, 4)], [(0, 5, 4)], [(1, 5, 3)], [(0, 4, HUGE)], [(0, 4, 2), (0, 5, 2)], [(0, 4, 1), (0, 5, 3)],
            [(0, 4, 3), (1, 4, 2)], [(0, 3, 1)], [(2, 4, 1)], [(0, 4, 3), (1, 4, 1), (1, 5, 2)],
        ):
            self.check_error(InvalidJoins, joined_family, sheet, joins)

    def test_more_than_any_day_lets(self):
        rng = random.Random(8)
        for sheet in large_cases():
            joins = draw_joins(rng, sheet, 0.9)
            for at, (first, second, number) in enumerate(joins):
                away = sum(many for a, _, many in joins if a == first)
                fresh = sum(many for _, b, many in joins if b == second)
                more = min(away_of(sheet, first) - away, fresh_of(sheet, second) - fresh)
                largest = joins[:at] + [(first, second, number + more)] + joins[at + 1:]
                if at < 5:
                    self.check_joins(sheet, largest)
                beyond = joins[:at] + [(first, second, number + more + 1)] + joins[at + 1:]
                self.check_error(InvalidJoins, joined_family, sheet, beyond)


if __name__ == "__main__":
    unittest.main()
