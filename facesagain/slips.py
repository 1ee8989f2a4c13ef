"""Slips: which one number of a sheet can be wrong, and what it can be instead."""

from facesagain.checks import check_day, check_sheet, is_between
from facesagain.errors import InvalidDay
from facesagain.gaps import numbers_in


def value_range(sheet, day, back):
    """The tuple (least, greatest) of the values of one number with which the sheet is possible, None for none."""
    check_sheet(sheet)
    check_day(sheet, day)
    if not is_between(back, 0, len(sheet[day]) - 1):
        raise InvalidDay(f"row {day} goes back 0 to {len(sheet[day]) - 1} days")
    return _values_at(sheet, numbers_in(sheet), day, back)


def corrections(sheet):
    """The ascending list of the tuples (day, back, least, greatest) of the numbers that alone can be wrong."""
    check_sheet(sheet)
    numbers = numbers_in(sheet)
    found = []
    for day, row in enumerate(sheet):
        for back in range(len(row)):
            values = _values_at(sheet, numbers, day, back)
            if values is not None:
                found.append((day, back) + values)
    return found


def least_correction(sheet):
    """The tuple (day, back, value) of the number that must change least, None if no change of one number helps."""
    changes = []
    for day, back, least, greatest in corrections(sheet):
        told = sheet[day][back]
        value = max(told, least)
        if greatest is not None:
            value = min(value, greatest)
        changes.append((abs(value - told), day, back, value))
    if changes == []:
        return None
    _, day, back, value = min(changes)
    return (day, back, value)


def _values_at(sheet, numbers, day, back):
    """The values of value_range, where numbers are the gap, away and fresh numbers of the sheet."""
    first = day - back
    told = sheet[day][back]
    # R1 and R2 take the number of the stretch first to day up in these, by a plus and by a minus sign.
    rising = [("gap", first, day + 1), ("gap", first - 1, day), ("away", first, day), ("fresh", first, day)]
    falling = [("gap", first, day), ("gap", first - 1, day + 1), ("away", first - 1, day), ("fresh", first, day + 1)]
    for thing, number in numbers.items():
        if number < 0 and thing not in rising and thing not in falling:
            return None
    least = max([0] + [told - numbers[thing] for thing in rising if thing in numbers])
    most = [told + numbers[thing] for thing in falling if thing in numbers]
    if most == []:
        return (least, None)
    if min(most) < least:
        return None
    return (least, min(most))
