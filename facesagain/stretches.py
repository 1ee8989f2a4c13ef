"""Stretches: how many visitors came in both of two stretches, and how many of a day came again soon."""

from facesagain.checks import check_day, check_sheet, check_told
from facesagain.errors import InvalidDay
from facesagain.gaps import check_possible
from facesagain.sheets import told_number


def common_of(sheet, first, last, second, end):
    """How many visitors came in both of the stretches first to last and second to end."""
    check_sheet(sheet)
    check_told(sheet, first, last, 0)
    check_told(sheet, second, end, 0)
    check_told(sheet, first, end, 0)
    if not first <= second <= last + 1 or last > end:
        raise InvalidDay("the stretches must begin and end in their order, with no day between them")
    check_possible(sheet)
    return _common(sheet, first, last, second, end)


def _common(sheet, first, last, second, end):
    """How many came in both of two stretches that together are the told stretch first to end."""
    return told_number(sheet, first, last) + told_number(sheet, second, end) - told_number(sheet, first, end)


def came_again(sheet, day):
    """The list of how many visitors of a day came again within the next 1, 2 .. days, as far as is told."""
    check_sheet(sheet)
    check_day(sheet, day)
    check_possible(sheet)
    ends = range(day + 1, min(day + len(sheet[-1]), len(sheet)))
    return [_common(sheet, day, day, day + 1, end) for end in ends]
