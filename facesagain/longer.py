"""Longer stretches: how many unlike visitors there were on more days than the sheet tells at once."""

from facesagain.checks import check_apart, check_sheet, is_between
from facesagain.errors import InvalidNumber
from facesagain.families import family_with_joins, joins_among
from facesagain.gaps import away_from, check_possible, fresh_on
from facesagain.sheets import told_number


def longer_range(sheet, first, last):
    """The tuple (least, greatest) of the number of unlike visitors in a stretch."""
    check_sheet(sheet)
    check_apart(sheet, first, last, 0)
    check_possible(sheet)
    return range_within(sheet, first, last)


def longer_paper(sheet, first, last):
    """The least day whose bound is the greatest number of visitors who can come again within a stretch."""
    check_sheet(sheet)
    check_apart(sheet, first, last, len(sheet[-1]))
    check_possible(sheet)
    _, day = _most_joined(sheet, first, last)
    return day


def longer_family(sheet, first, last, number):
    """A family that has the sheet, with just so many unlike visitors in a stretch."""
    check_sheet(sheet)
    check_apart(sheet, first, last, 0)
    check_possible(sheet)
    least, greatest = range_within(sheet, first, last)
    if not is_between(number, least, greatest):
        raise InvalidNumber(f"there were {least} to {greatest} unlike visitors")
    return family_with_joins(sheet, _joins_within(sheet, first, last, greatest - number))


def range_within(sheet, first, last):
    """The tuple (least, greatest) for a stretch of a sheet that is known to be possible."""
    width = len(sheet[-1])
    if last - first < width:
        told = told_number(sheet, first, last)
        return (told, told)
    fresh = sum([fresh_on(sheet, day) for day in range(first + width, last + 1)])
    greatest = told_number(sheet, first, first + width - 1) + fresh
    most, _ = _most_joined(sheet, first, last)
    return (greatest - most, greatest)


def _most_joined(sheet, first, last):
    """The tuple (bound, day) of the least bound, which is M of R4, and the least day that has it."""
    return min([(_bound(sheet, first, last, day), day) for day in range(first, last - len(sheet[-1]) + 2)])


def _bound(sheet, first, last, day):
    """How many are away ahead of a day or fresh the width or more behind it: who comes again is one of these."""
    away = sum([away_from(sheet, earlier) for earlier in range(first, day)])
    fresh = sum([fresh_on(sheet, later) for later in range(day + len(sheet[-1]), last + 1)])
    return away + fresh


def _joins_within(sheet, first, last, total):
    """Joins of days of a stretch of so many visitors together; none for a told stretch."""
    width = len(sheet[-1])
    away = {day: away_from(sheet, day) for day in range(first, last - width + 1)}
    fresh = {day: fresh_on(sheet, day) for day in range(first + width, last + 1)}
    return joins_among(away, fresh, width, total)
