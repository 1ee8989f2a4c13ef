"""Gaps: who came again when, who went away and who came fresh, and whether a sheet is possible."""

from facesagain.checks import check_day, check_sheet, check_told, is_integer
from facesagain.errors import Impossible
from facesagain.sheets import told_number


def gap_of(sheet, first, second):
    """How many visitors of day first have day second as their next day."""
    check_sheet(sheet)
    check_told(sheet, first, second, 1)
    return gap_between(sheet, first, second)


def gap_between(sheet, first, second):
    """The gap of two days that are known to be told."""
    from_first = told_number(sheet, first, second - 1) - told_number(sheet, first, second)
    behind_first = told_number(sheet, first + 1, second) - told_number(sheet, first + 1, second - 1)
    return from_first + behind_first


def away_of(sheet, day):
    """How many visitors of a day do not come on the told days behind it."""
    check_sheet(sheet)
    check_day(sheet, day)
    return away_from(sheet, day)


def away_from(sheet, day):
    """The away number of a day that is known to be there."""
    end = end_of_away(sheet, day)
    return told_number(sheet, day, end) - told_number(sheet, day + 1, end)


def end_of_away(sheet, day):
    """The last day of the widest told stretch that begins on a day."""
    return min(day + len(sheet[-1]) - 1, len(sheet) - 1)


def fresh_of(sheet, day):
    """How many visitors of a day did not come on the told days ahead of it."""
    check_sheet(sheet)
    check_day(sheet, day)
    return fresh_on(sheet, day)


def fresh_on(sheet, day):
    """The fresh number of a day that is known to be there."""
    start = start_of_fresh(sheet, day)
    return told_number(sheet, start, day) - told_number(sheet, start, day - 1)


def start_of_fresh(sheet, day):
    """The first day of the widest told stretch that ends on a day."""
    return max(0, day - len(sheet[-1]) + 1)


def all_gaps(sheet):
    """The ascending list of the tuples (first, second, gap) with a gap other than 0."""
    check_sheet(sheet)
    return gaps_in(sheet)


def gaps_in(sheet):
    """The gaps other than 0 of what is known to be a sheet."""
    gaps = [(first, second, gap_between(sheet, first, second)) for first, second in _told_pairs(sheet)]
    return [gap for gap in gaps if gap[2] != 0]


def _told_pairs(sheet):
    """The ascending list of the tuples (first, second) of unlike days that stand in one told stretch."""
    days = len(sheet)
    width = len(sheet[-1])
    return [(first, second) for first in range(days) for second in range(first + 1, min(first + width, days))]


def numbers_in(sheet):
    """The dict of all tuples (word, first, second) of what is known to be a sheet with their numbers."""
    numbers = {("gap", first, second): gap_between(sheet, first, second) for first, second in _told_pairs(sheet)}
    for day in range(len(sheet)):
        numbers[("away", day, end_of_away(sheet, day))] = away_from(sheet, day)
        numbers[("fresh", start_of_fresh(sheet, day), day)] = fresh_on(sheet, day)
    return numbers


def conflict_of(sheet):
    """None for a possible sheet, else the first of the tuples that show that it is not."""
    check_sheet(sheet)
    conflicts = conflicts_in(sheet)
    if len(conflicts) == 0:
        return None
    return conflicts[0]


def check_possible(sheet):
    """Raise Impossible with what conflict_of tells, if no family has what is known to be a sheet."""
    conflicts = conflicts_in(sheet)
    if len(conflicts) > 0:
        word, first, second = conflicts[0]
        raise Impossible(word, first, second)


def conflicts_in(sheet):
    """All tuples (word, first, second) with a number below 0, sorted by last, then second, then first item."""
    numbers = numbers_in(sheet)
    found = [(second, first, word) for (word, first, second), number in numbers.items() if number < 0]
    return [(word, first, second) for second, first, word in sorted(found)]


def shows_conflict(sheet, thing):
    """Whether any object is a tuple (word, first, second) with a number below 0."""
    check_sheet(sheet)
    if type(thing) != tuple or len(thing) != 3:
        return False
    # True equals 1 for Python, so a boolean in the place of a day has to be told apart first.
    if not is_integer(thing[1]) or not is_integer(thing[2]):
        return False
    return thing in conflicts_in(sheet)
