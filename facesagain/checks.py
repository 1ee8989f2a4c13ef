"""Checks of arguments that several files share."""

from facesagain.errors import InvalidCount, InvalidDay, InvalidFamily, InvalidPattern, InvalidSheet, InvalidWidth

MOST_DAYS = 30
MOST_GROUPS = 2000


def is_integer(thing):
    """Whether any object is an integer; booleans are none."""
    return type(thing) == int


def is_between(thing, least, most):
    """Whether any object is an integer from least to most."""
    return is_integer(thing) and least <= thing <= most


def is_row(thing, length):
    """Whether any object is a list of just so many integers from 0 on."""
    if type(thing) != list or len(thing) != length:
        return False
    return all([is_integer(number) and number >= 0 for number in thing])


def is_sheet(thing):
    """Whether any object is a sheet, possible or not."""
    if type(thing) != list or not 1 <= len(thing) <= MOST_DAYS:
        return False
    last_row = thing[-1]
    if type(last_row) != list or not 1 <= len(last_row) <= len(thing):
        return False
    width = len(last_row)
    return all([is_row(row, min(day + 1, width)) for day, row in enumerate(thing)])


def is_pattern(thing, count):
    """Whether any object is a pattern of days below count."""
    if type(thing) != tuple or len(thing) == 0:
        return False
    if not all([is_between(day, 0, count - 1) for day in thing]):
        return False
    return all([thing[at] < thing[at + 1] for at in range(len(thing) - 1)])


def is_group(thing, count):
    """Whether any object is a tuple (pattern, many) of a family with days below count."""
    if type(thing) != tuple or len(thing) != 2:
        return False
    pattern, many = thing
    return is_pattern(pattern, count) and is_integer(many) and many >= 1


def is_family_below(thing, count):
    """Whether any object is a family with days below count."""
    if type(thing) != list or len(thing) > MOST_GROUPS:
        return False
    # The empty tuple is less than every pattern, so the first one needs no case of its own.
    previous = ()
    for group in thing:
        # Patterns alone are compared: two groups with equal patterns are not allowed, whatever their many.
        if not is_group(group, count) or not previous < group[0]:
            return False
        previous = group[0]
    return True


def check_sheet(sheet):
    """Raise InvalidSheet for what is no sheet."""
    if not is_sheet(sheet):
        raise InvalidSheet("a sheet is a list of 1 to 30 lists of min(day + 1, width) integers from 0 on")


def check_family(family, count):
    """Raise InvalidFamily for what is no family with days below count."""
    if not is_family_below(family, count):
        raise InvalidFamily(f"a family is an ascending list of (pattern, many), here with days below {count}")


def check_pattern(sheet, pattern):
    """Raise InvalidPattern for what is no pattern of days that the sheet has."""
    if not is_pattern(pattern, len(sheet)):
        raise InvalidPattern(f"a pattern is an ascending tuple of one or more days, here 0 to {len(sheet) - 1}")


def check_count(count):
    """Raise InvalidCount for what is no number of days."""
    if not is_between(count, 1, MOST_DAYS):
        raise InvalidCount(f"there are 1 to {MOST_DAYS} days")


def check_width(width, most):
    """Raise InvalidWidth for what is no width from 1 to most."""
    if not is_between(width, 1, most):
        raise InvalidWidth(f"the width is from 1 to {most}")


def check_day(sheet, day):
    """Raise InvalidDay for a day that the sheet does not have."""
    if not is_between(day, 0, len(sheet) - 1):
        raise InvalidDay(f"there are {len(sheet)} days, counted from 0")


def check_apart(sheet, first, last, least):
    """Raise InvalidDay unless both days are there, and the last one least or more days behind the first."""
    check_day(sheet, first)
    check_day(sheet, last)
    if last - first < least:
        raise InvalidDay(f"the last day must be {least} or more days behind the first")


def check_told(sheet, first, last, least):
    """Raise InvalidDay unless both days are there, and least or more, but less than the width, apart."""
    check_apart(sheet, first, last, least)
    width = len(sheet[-1])
    if last - first >= width:
        raise InvalidDay(f"the last day must be less than {width} days behind the first")
