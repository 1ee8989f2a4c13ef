"""Sheets: how many unlike visitors came in each told stretch of days."""

from facesagain.checks import MOST_DAYS, check_count, check_day, check_family, check_sheet, check_told, check_width


def sheet_of(family, count, width):
    """The sheet of a family for so many days and of this width."""
    check_family(family, MOST_DAYS)
    check_count(count)
    check_width(width, count)
    # A family whose days only count cuts off is invalid too, but behind a wrong count or width.
    check_family(family, count)
    by_latest = [[0] * min(day + 1, width) for day in range(count)]
    for pattern, many in family:
        _count_by_latest(by_latest, pattern, many)
    return [_running_sums(row) for row in by_latest]


def _count_by_latest(by_latest, pattern, many):
    """Add visitors with a pattern at row[day][k] where, up to this day, they came last k days ahead of it."""
    latest = None
    for day in range(len(by_latest)):
        if day in pattern:
            latest = day
        # Who came last before the widest stretch is in no stretch that ends on this day.
        if latest is not None and day - latest < len(by_latest[day]):
            by_latest[day][day - latest] += many


def _running_sums(row):
    """The list of the sums of the first 1, 2 .. numbers of a row."""
    total = 0
    sums = []
    for number in row:
        total += number
        sums.append(total)
    return sums


def days_in(sheet):
    """How many days a sheet has."""
    check_sheet(sheet)
    return len(sheet)


def width_in(sheet):
    """The width of a sheet."""
    check_sheet(sheet)
    return len(sheet[-1])


def visits_of(sheet, day):
    """How many visitors came on a day."""
    check_sheet(sheet)
    check_day(sheet, day)
    return told_number(sheet, day, day)


def unlike_of(sheet, first, last):
    """How many unlike visitors came in a told stretch."""
    check_sheet(sheet)
    check_told(sheet, first, last, 0)
    return told_number(sheet, first, last)


def told_number(sheet, first, last):
    """The number of a stretch that is known to be told; 0 for the empty stretch, as the results use it."""
    if first > last:
        return 0
    return sheet[last][last - first]


def narrowed_sheet(sheet, width):
    """The sheet of less width: the first numbers of each row."""
    check_sheet(sheet)
    check_width(width, len(sheet[-1]))
    return [row[:width] for row in sheet]
