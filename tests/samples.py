"""Families, sheets and wrong things that several tests use, and counting by hand."""

import random

from facesagain.errors import FaceError, Impossible, InvalidText

HUGE = 10 ** 30 - 1

PAPER = [[3], [3, 4], [2, 4]]

OBJECTS = [
    None, True, False, 0, 1, -1, HUGE, "", "gap", "[[1]]", [], (), {}, [[]], [()], ([],), ((),), {"0": [1]},
    [None], [True], [1], ["1"], (1,), ((0,), 1), [[0], [0]], [(0, 1)], [[True]], [["1"]], [[None]], [[[1]]],
    [((0,), 1), None], {"a": {"b": [{"c": ()}]}}, FaceError("x"), Impossible("gap", 0, 1), InvalidText(0),
]


def unlike(family, first, last):
    """U(first, last) by counting visitors one pattern at a time."""
    return sum(many for pattern, many in family if any(first <= day <= last for day in pattern))


def sheet_by_hand(family, count, width):
    return [[unlike(family, day - k, day) for k in range(min(day + 1, width))] for day in range(count)]


def random_family(rng, count, groups, most):
    table = {}
    for _ in range(groups):
        days = rng.sample(range(count), rng.randint(1, rng.choice([1, min(3, count), count])))
        table[tuple(sorted(days))] = rng.randint(1, most)
    return sorted(table.items())


def families():
    """Tuples (family, count): the empty one, small ones, many patterns, long numbers, 1 to 30 days."""
    rng = random.Random(20261119)
    found = [([], 1), ([], 7), ([], 30), ([((0,), 1)], 1), ([((0,), HUGE)], 1), ([((4,), 2)], 9)]
    found.append(([(tuple(range(30)), HUGE)], 30))
    found.append(([((0, 29), 5), ((29,), 1)], 30))
    found.append(([((0,), 1), ((0, 1), 2), ((1, 2), 1), ((2,), 1)], 3))
    for count in list(range(1, 13)) + [20, 29, 30]:
        for groups, most in ((1, 1), (4, 3), (25, 9), (60, HUGE)):
            found.append((random_family(rng, count, groups, most), count))
    return found


def widths(count):
    """Each width of few days, and some of many."""
    if count <= 8:
        return list(range(1, count + 1))
    return sorted({1, 2, 3, 7, count // 2, count - 1, count})


def possible_sheets():
    """Tuples (sheet, family, count, width)."""
    for family, count in families():
        for width in widths(count):
            yield sheet_by_hand(family, count, width), family, count, width


def any_sheets():
    """Sheets that mostly no family has, and a few that one has."""
    rng = random.Random(7)
    found = [[[0]], [[HUGE]], PAPER, [[1], [0, 0]], [[0], [0, HUGE]], [[HUGE]] * 30]
    for count in list(range(1, 10)) + [20, 30]:
        for width in widths(count):
            for most in (0, 1, 5, HUGE):
                found.append([[rng.randint(0, most) for _ in range(min(day + 1, width))] for day in range(count)])
    for sheet, _, count, width in possible_sheets():
        day = rng.randrange(count)
        sheet[day][rng.randrange(min(day + 1, width))] = rng.randint(0, 12)
        found.append(sheet)
    return found


WRONG_NUMBERS = [-1, -HUGE, True, False, None, "1", "", [], [1], (1,), {}, FaceError("x")]


def wrong_sheets():
    """Objects that are no sheets, each one with one wrong thing at one place, or of a wrong shape."""
    found = [thing for thing in OBJECTS if thing != [[1]] and thing != [[0], [0]]]
    found += [[[0] for _ in range(31)], [[0] * (day + 1) for day in range(31)], [[0] for _ in range(500)]]
    found += [[[0, 0]], [[], []], [[0], []], [[0], [0, 0, 0]], [[0, 0], [0, 0]], [[0], [0], [0, 0]]]
    found += [[[0], [0, 0], [0]], [[0], [0, 0], [0, 0, 0, 0]], [[0], [0, 0], [0, 0, 0], [0, 0], [0, 0, 0]]]
    for good in ([[1]], PAPER, [[1], [2], [3]], [[1], [1, 2], [1, 2, 3], [1, 2, 3]]):
        found += [tuple(good), tuple(tuple(row) for row in good), dict(enumerate(good)), str(good), [good]]
        for day, row in enumerate(good):
            for other in (tuple(row), None, len(row), str(row), {}, [row], row + [0], row[:-1], []):
                found.append(good[:day] + [other] + good[day + 1:])
            for k in range(len(row)):
                for other in WRONG_NUMBERS:
                    found.append(good[:day] + [row[:k] + [other] + row[k + 1:]] + good[day + 1:])
    # A row more or less in one place can leave a sheet of another width.
    return [thing for thing in found if not is_plain_sheet(thing)]


def is_plain_sheet(thing):
    """Whether a thing is a sheet, told in one expression that is written apart from the program."""
    return (
        isinstance(thing, list) and 1 <= len(thing) <= 30 and all(isinstance(row, list) for row in thing)
        and len(thing[-1]) >= 1
        and [len(row) for row in thing] == [min(day + 1, len(thing[-1])) for day in range(len(thing))]
        and all(isinstance(x, int) and not isinstance(x, bool) and x >= 0 for row in thing for x in row)
    )


def wrong_families():
    """Objects that are no families, whatever the count."""
    found = [thing for thing in OBJECTS if thing != []]
    found += [[((day,), 1)] for day in (-1, 30, 31, HUGE, -HUGE, True, False, None, "0", (0,), [0])]
    found += [[((0, day), 1)] for day in (-1, 0, 30, HUGE, True, None, "1", (1,))]
    found += [[((0,), many)] for many in (0, -1, -HUGE, True, False, None, "1", (1,), [1])]
    found += [[((), 1)], [((1, 0), 1)], [((0, 0), 1)], [((0, 2, 1), 1)], [((0, 1, 1, 2), 1)]]
    found += [[([0], 1)], [(0, 1)], [("0", 1)], [(None, 1)], [({}, 1)], [[(0,), 1]], [((0,),)], [((0,), 1, 1)], [()]]
    found += [[((0,), 1), ((0,), 1)], [((0,), 1), ((0,), 2)], [((0,), 2), ((0,), 1)], [((1,), 1), ((0,), 1)]]
    found += [[((0, 1), 1), ((0,), 1)], [((0,), 1), ((2,), 1), ((1,), 1)], [((2,), 1), ((10,), 1), ((3,), 1)]]
    found += [[((0,), 1), ((1,), 1), ((1,), 2)], (((0,), 1),), {"0": 1}, [{"0": 1}], [((0,), 1), ((1,), 0)]]
    found.append(many_groups(2001))
    return found


def many_groups(groups):
    """A valid family of so many tuples but for their number: patterns of days 0 to 10."""
    patterns = sorted(tuple(day for day in range(11) if bits >> day & 1) for bits in range(1, groups + 1))
    return [(pattern, 1 + at % 3) for at, pattern in enumerate(patterns)]
