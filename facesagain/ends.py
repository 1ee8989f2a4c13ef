"""Ends: who came for the first time, who came again, who never came again, and all visitors."""

from facesagain.checks import check_apart, check_day, check_sheet
from facesagain.gaps import away_from, check_possible, fresh_on, gap_between
from facesagain.longer import range_within
from facesagain.sheets import told_number


def new_range(sheet, day):
    """The tuple (least, greatest) of the visitors of a day who did not come ahead."""
    check_sheet(sheet)
    check_day(sheet, day)
    check_possible(sheet)
    return new_on(sheet, day)


def again_range(sheet, day):
    """The tuple (least, greatest) of the visitors of a day who did come ahead."""
    check_sheet(sheet)
    check_day(sheet, day)
    check_possible(sheet)
    least, greatest = new_on(sheet, day)
    visits = told_number(sheet, day, day)
    return (visits - greatest, visits - least)


def new_on(sheet, day):
    """The tuple (least, greatest) of new visitors on a day of a sheet that is known to be possible."""
    fresh = fresh_on(sheet, day)
    joinable = sum([away_from(sheet, earlier) for earlier in range(day - len(sheet[-1]) + 1)])
    return (max(0, fresh - joinable), fresh)


def gone_range(sheet, day):
    """The tuple (least, greatest) of the visitors of a day who did not come later."""
    check_sheet(sheet)
    check_day(sheet, day)
    check_possible(sheet)
    return gone_from(sheet, day)


def gone_from(sheet, day):
    """The tuple (least, greatest) of the visitors who go for good, of a sheet that is known to be possible."""
    away = away_from(sheet, day)
    joinable = sum([fresh_on(sheet, later) for later in range(day + len(sheet[-1]), len(sheet))])
    return (max(0, away - joinable), away)


def next_range(sheet, first, second):
    """The tuple (least, greatest) of the visitors of day first whose next day is second."""
    check_sheet(sheet)
    check_apart(sheet, first, second, 1)
    check_possible(sheet)
    if second - first < len(sheet[-1]):
        gap = gap_between(sheet, first, second)
        return (gap, gap)
    return (0, min(away_from(sheet, first), fresh_on(sheet, second)))


def all_range(sheet):
    """The tuple (least, greatest) of all visitors."""
    check_sheet(sheet)
    check_possible(sheet)
    return range_within(sheet, 0, len(sheet) - 1)
