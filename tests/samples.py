"""Families, sheets and wrong things that several tests use, and counting by hand."""

import functools
import random

from facesagain.errors import FaceError, Impossible, InvalidText
from facesagain.gaps import away_of, conflict_of, fresh_of
from facesagain.sheets import sheet_of

HUGE = 10 ** 30 - 1

PAPER = [[3], [3, 4], [2, 4]]

OBJECTS = [
    None, True, False, 0, 1, -1, HUGE, "", "gap", "[[1]]", [], (), {}, [[]], [()], ([],), ((),), {"0": [1]},
    [None], [True], [1], ["1"], (1,), ((0,), 1), [[0], [0]], [(0, 1)], [[True]], [["1"]], [[None]], [[[1]]],
    [((0,), 1), None], {"a": {"b": [{"c": ()}]}}, FaceError("x"), Impossible("gap", 0, 1), InvalidText(0),
]


def unlike(family, first, last):
    """U(first, last) by counting visitors one pattern at a time."""
    return sum(many for pattern, many in family if any(first <= day <= last for day in pattern))


def sheet_by_hand(family, count, width):
    return [[unlike(family, day - k, day) for k in range(min(day + 1, width))] for day in range(count)]


def random_family(rng, count, groups, most):
    table = {}
    for _ in range(groups):
        days = rng.sample(range(count), rng.randint(1, rng.choice([1, min(3, count), count])))
        table[tuple(sorted(days))] = rng.randint(1, most)
    return sorted(table.items())


def families():
    """Tuples (family, count): the empty one, small ones, many patterns, long numbers, 1 to 30 days."""
    rng = random.Random(20261119)
    found = [([], 1), ([], 7), ([], 30), ([((0,), 1)], 1), ([((0,), HUGE)], 1), ([((4,), 2)], 9)]
    found.append(([(tuple(range(30)), HUGE)], 30))
    found.append(([((0, 29), 5), ((29,), 1)], 30))
    found.append(([((0,), 1), ((0, 1), 2), ((1, 2), 1), ((2,), 1)], 3))
    for count in list(range(1, 13)) + [20, 29, 30]:
        for groups, most in ((1, 1), (4, 3), (25, 9), (60, HUGE)):
            found.append((random_family(rng, count, groups, most), count))
    return found


def widths(count):
    """Each width of few days, and some of many."""
    if count <= 8:
        return list(range(1, count + 1))
    return sorted({1, 2, 3, 7, count // 2, count - 1, count})


def possible_sheets():
    """Tuples (sheet, family, count, width)."""
    for family, count in families():
        for width in widths(count):
            yield sheet_by_hand(family, count, width), family, count, width


@functools.cache
def any_sheets():
    """Sheets that mostly no family has, and a few that one has."""
    rng = random.Random(7)
    found = [[[0]], [[HUGE]], PAPER, [[1], [0, 0]], [[0], [0, HUGE]], [[HUGE]] * 30]
    for count in list(range(1, 10)) + [20, 30]:
        for width in widths(count):
            for most in (0, 1, 5, HUGE):
                found.append([[rng.randint(0, most) for _ in range(min(day + 1, width))] for day in range(count)])
    for sheet, _, count, width in possible_sheets():
        day = rng.randrange(count)
        sheet[day][rng.randrange(min(day + 1, width))] = rng.randint(0, 12)
        found.append(sheet)
    return found


WRONG_NUMBERS = [-1, -HUGE, True, False, None, "1", "", [], [1], (1,), {}, FaceError("x")]


def wrong_sheets():
    """Objects that are no sheets, each one with one wrong thing at one place, or of a wrong shape."""
    found = [thing for thing in OBJECTS if thing != [[1]] and thing != [[0], [0]]]
    found += [[[0] for _ in range(31)], [[0] * (day + 1) for day in range(31)], [[0] for _ in range(500)]]
    found += [[[0, 0]], [[], []], [[0], []], [[0], [0, 0, 0]], [[0, 0], [0, 0]], [[0], [0], [0, 0]]]
    found += [[[0], [0, 0], [0]], [[0], [0, 0], [0, 0, 0, 0]], [[0], [0, 0], [0, 0, 0], [0, 0], [0, 0, 0]]]
    for good in ([[1]], PAPER, [[1], [2], [3]], [[1], [1, 2], [1, 2, 3], [1, 2, 3]]):
        found += [tuple(good), tuple(tuple(row) for row in good), dict(enumerate(good)), str(good), [good]]
        for day, row in enumerate(good):
            for other in (tuple(row), None, len(row), str(row), {}, [row], row + [0], row[:-1], []):
                found.append(good[:day] + [other] + good[day + 1:])
            for k in range(len(row)):
                for other in WRONG_NUMBERS:
                    found.append(good[:day] + [row[:k] + [other] + row[k + 1:]] + good[day + 1:])
    # A row more or less in one place can leave a sheet of another width.
    return [thing for thing in found if not is_plain_sheet(thing)]


def is_plain_sheet(thing):
    """Whether a thing is a sheet, told in one expression that is written apart from the program."""
    return (
        isinstance(thing, list) and 1 <= len(thing) <= 30 and all(isinstance(row, list) for row in thing)
        and len(thing[-1]) >= 1
        and [len(row) for row in thing] == [min(day + 1, len(thing[-1])) for day in range(len(thing))]
        and all(isinstance(x, int) and not isinstance(x, bool) and x >= 0 for row in thing for x in row)
    )


def wrong_families():
    """Objects that are no families, whatever the count."""
    found = [thing for thing in OBJECTS if thing != []]
    found += [[((day,), 1)] for day in (-1, 30, 31, HUGE, -HUGE, True, False, None, "0", (0,), [0])]
    found += [[((0, day), 1)] for day in (-1, 0, 30, HUGE, True, None, "1", (1,))]
    found += [[((0,), many)] for many in (0, -1, -HUGE, True, False, None, "1", (1,), [1])]
    found += [[((), 1)], [((1, 0), 1)], [((0, 0), 1)], [((0, 2, 1), 1)], [((0, 1, 1, 2), 1)]]
    found += [[([0], 1)], [(0, 1)], [("0", 1)], [(None, 1)], [({}, 1)], [[(0,), 1]], [((0,),)], [((0,), 1, 1)], [()]]
    found += [[((0,), 1), ((0,), 1)], [((0,), 1), ((0,), 2)], [((0,), 2), ((0,), 1)], [((1,), 1), ((0,), 1)]]
    found += [[((0, 1), 1), ((0,), 1)], [((0,), 1), ((2,), 1), ((1,), 1)], [((2,), 1), ((10,), 1), ((3,), 1)]]
    found += [[((0,), 1), ((1,), 1), ((1,), 2)], (((0,), 1),), {"0": 1}, [{"0": 1}], [((0,), 1), ((1,), 0)]]
    found.append(many_groups(2001))
    return found


def many_groups(groups):
    """A valid family of so many tuples but for their number: patterns of days 0 to 10."""
    patterns = sorted(tuple(day for day in range(11) if bits >> day & 1) for bits in range(1, groups + 1))
    return [(pattern, 1 + at % 3) for at, pattern in enumerate(patterns)]


def is_plain_family(thing, count):
    """Whether a thing is a family with days below count, told apart from the program."""
    if not isinstance(thing, list) or len(thing) > 2000:
        return False
    for group in thing:
        if not isinstance(group, tuple) or [isinstance(part, tuple) for part in group] != [True, False]:
            return False
        pattern, many = group
        if not all(isinstance(x, int) and not isinstance(x, bool) for x in pattern + (many,)):
            return False
        if many < 1 or not pattern or list(pattern) != [day for day in range(count) if day in pattern]:
            return False
    patterns = [pattern for pattern, _ in thing]
    return patterns == sorted(set(patterns))


def all_families(sheet):
    """All families that have a sheet, by trying every number for every pattern."""
    count = len(sheet)
    patterns = sorted(tuple(day for day in range(count) if bits >> day & 1) for bits in range(1, 2 ** count))
    rest = {(day - k, day): number for day, row in enumerate(sheet) for k, number in enumerate(row)}
    touched = {pattern: [told for told in rest if unlike([(pattern, 1)], *told)] for pattern in patterns}
    found = []

    def choose(at, chosen):
        if at == len(patterns):
            if not any(rest.values()):
                found.append(list(chosen))
            return
        # No pattern from here on has a day ahead of the first one of this pattern.
        if any(rest[day, day] for day in range(patterns[at][0])):
            return
        for many in range(min(rest[told] for told in touched[patterns[at]]) + 1):
            for told in touched[patterns[at]]:
                rest[told] -= many
            choose(at + 1, chosen + [(patterns[at], many)] if many else chosen)
            for told in touched[patterns[at]]:
                rest[told] += many

    choose(0, [])
    return found


@functools.cache
def small_cases():
    """Tuples (sheet, all its families) of two to four days and of each width."""
    rng = random.Random(3)
    drawn = [([((0,), 2), ((1,), 1), ((2,), 1)], 3), ([((0, 2), 2), ((1, 3), 1), ((3,), 1)], 4)]
    drawn += [([((0,), 2), ((3,), 2)], 4), ([((0,), 1), ((1,), 1), ((2,), 1), ((3,), 2)], 4), ([], 2)]
    for count, times in ((2, 12), (3, 25), (4, 25)):
        drawn += [(random_family(rng, count, rng.randint(1, 5), 2), count) for _ in range(times)]
    # All come on day 1 and can change their ways there, so that full sheets leave something open, too.
    drawn += [([((0, 1, 2), 2), ((1,), 2)], 3), ([((0, 1, 2), 2), ((1,), 1), ((1, 2), 1)], 3)]
    drawn += [([((0, 1, 3), 2), ((1,), 1), ((1, 2), 1)], 4), ([((0, 1), 1), ((1,), 1), ((1, 2, 3), 2)], 4)]
    drawn += [([((0, 1), 2), ((1, 3), 2)], 4), ([((0, 1), 1), ((1, 2), 3)], 4)]
    drawn += [([((0, 1), 1), ((0, 1, 3), 1), ((1, 3), 1)], 4)]
    drawn += [([((0, 1, 2, 3), 1), ((1,), 1), ((1, 2), 1), ((1, 3), 1)], 4)]
    sheets = {
        repr(sheet): sheet for family, count in drawn if sum(len(pattern) * many for pattern, many in family) <= 9
        for sheet in [sheet_by_hand(family, count, width) for width in range(1, count + 1)]
    }
    return [(sheet, all_families(sheet)) for sheet in sheets.values()]


@functools.cache
def large_cases():
    """Possible sheets of up to 30 days that have many joins, great numbers among them."""
    rng = random.Random(11)
    found = []
    for count in (5, 9, 14, 30):
        for groups, most in ((6, 4), (30, 50), (80, HUGE)):
            family = random_family(rng, count, groups, most)
            for width in sorted({1, 2, min(7, count - 1), count // 2, count - 1, count}):
                found.append(sheet_of(family, count, width))
    return found


def joins_in(family, width):
    """The dict of the pairs of days, width or more apart, of which visitors have the second as their next day."""
    found = {}
    for pattern, many in family:
        for pair in zip(pattern, pattern[1:]):
            if pair[1] - pair[0] >= width:
                found[pair] = found.get(pair, 0) + many
    return found


def draw_joins(rng, sheet, share):
    """Joins that the sheet lets, each pair of days taken with about so great a share of what is left."""
    count, width = len(sheet), len(sheet[-1])
    away = [away_of(sheet, day) for day in range(count)]
    fresh = [fresh_of(sheet, day) for day in range(count)]
    pairs = [(first, second) for first in range(count) for second in range(first + width, count)]
    rng.shuffle(pairs)
    joins = []
    for first, second in pairs:
        number = min(away[first], fresh[second])
        if share < 1:
            number = rng.randint(0, number) if rng.random() < share else 0
        if number > 0:
            joins.append((first, second, number))
            away[first] -= number
            fresh[second] -= number
    return sorted(joins)


@functools.cache
def impossible_sheets():
    """Sheets that no family has: small ones, and of up to 30 days."""
    found = [[[1], [1, 3]], [[4], [4, 1]], [[5], [1, 2]], [[0], [0, 0], [0, 0, 1]]]
    return found + [sheet for sheet in any_sheets() if conflict_of(sheet) is not None]
