"""Patterns: how many visitors came just on told days."""

from facesagain.checks import check_pattern, check_sheet, is_between
from facesagain.ends import gone_from, new_on
from facesagain.errors import InvalidNumber, NotFull
from facesagain.families import joins_among, routed_family, ways_in
from facesagain.gaps import away_from, check_possible, fresh_on, gap_between
from facesagain.sheets import sheet_of, told_number


def pattern_range(sheet, pattern):
    """The tuple (least, greatest) of the number of visitors with just this pattern."""
    check_sheet(sheet)
    check_pattern(sheet, pattern)
    check_possible(sheet)
    return _range_of(sheet, pattern)


def family_with(sheet, pattern, number):
    """A family that has the sheet, with just so many visitors with this pattern."""
    check_sheet(sheet)
    check_pattern(sheet, pattern)
    check_possible(sheet)
    least, greatest = _range_of(sheet, pattern)
    if not is_between(number, least, greatest):
        raise InvalidNumber(f"there were {least} to {greatest} visitors with this pattern")
    if number == 0:
        return _family_without(sheet, pattern)
    own = [(pattern, number)]
    return sorted(_family_without(_sheet_without(sheet, own), pattern) + own)


def once_range(sheet):
    """The tuple (least, greatest) of the number of visitors who came on just one day, for a full sheet."""
    check_sheet(sheet)
    days = len(sheet)
    if len(sheet[-1]) < days:
        raise NotFull(f"the width must be {days}")
    check_possible(sheet)
    # On each day those who come in go out in any way, so that what holds for one day says nothing of another one.
    ranges = [_range_of(sheet, (day,)) for day in range(days)]
    return (sum([least for least, _ in ranges]), sum([greatest for _, greatest in ranges]))


def daily_range(sheet):
    """The tuple (least, greatest) of the number of visitors who came every day."""
    check_sheet(sheet)
    check_possible(sheet)
    return _range_of(sheet, tuple(range(len(sheet))))


def _range_of(sheet, pattern):
    """The tuple (least, greatest) for a pattern of a sheet that is known to be possible."""
    away = away_from(sheet, pattern[-1])
    fresh = fresh_on(sheet, pattern[0])
    # Those who have the pattern can use up any of these numbers, for each is of other steps than all the others.
    bounds = [fresh, away] + [_most_between(sheet, first, second) for first, second in _steps(pattern)]
    return (_least_of(sheet, pattern), min(bounds))


def _steps(pattern):
    """The list of the tuples (day, next day) of a pattern."""
    return list(zip(pattern, pattern[1:]))


def _is_joined(sheet, pattern):
    """Whether who has the pattern was away, and came again on a day where the sheet does not tell it."""
    return any([second - first >= len(sheet[-1]) for first, second in _steps(pattern)])


def _most_between(sheet, first, second):
    """The greatest number of visitors of day first whose next day is second."""
    if second - first < len(sheet[-1]):
        return gap_between(sheet, first, second)
    return min(away_from(sheet, first), fresh_on(sheet, second))


def _least_of(sheet, pattern):
    """The least number of visitors with a pattern of a sheet that is known to be possible."""
    if _is_joined(sheet, pattern):
        return 0
    # On each day as many as can be of those who came as the pattern tells go on in some other way: only those are
    # left for whom the other ways are too few, visits less the number that goes on as the pattern tells.
    new, _ = new_on(sheet, pattern[0])
    gone, _ = gone_from(sheet, pattern[-1])
    gaps = sum([gap_between(sheet, first, second) for first, second in _steps(pattern)])
    return max(0, new + gaps + gone - sum([told_number(sheet, day, day) for day in pattern]))


def _sheet_without(sheet, family):
    """The sheet of the visitors who are left when these are taken out."""
    taken = sheet_of(family, len(sheet), len(sheet[-1]))
    return [[number - part for number, part in zip(row, parts)] for row, parts in zip(sheet, taken)]


def _family_without(sheet, pattern):
    """A family that has the sheet, for a pattern that nobody need have."""
    ways = ways_in(sheet, _joins_beside(sheet, pattern))
    nexts = pattern[1:] + (None,)
    for day, following in zip(pattern, nexts):
        others = [way for way in ways[day] if way[0] != following]
        ways[day] = others + [way for way in ways[day] if way[0] == following]
    # Who has come as the pattern tells takes the first ways, and goes on as it tells only when these are full.
    return routed_family(ways, lambda days: days == pattern[:len(days)])


def _joins_beside(sheet, pattern):
    """Joins after which as few as can be are new on the first day of a pattern, or gone behind its last one."""
    if _is_joined(sheet, pattern):
        return []
    first, last = pattern[0], pattern[-1]
    width = len(sheet[-1])
    away = {day: away_from(sheet, day) for day in range(first - width + 1)}
    fresh = {day: fresh_on(sheet, day) for day in range(last + width, len(sheet))}
    to_first = {first: fresh_on(sheet, first)}
    from_last = {last: away_from(sheet, last)}
    joins = joins_among(away, to_first, width, to_first[first])
    return joins + joins_among(from_last, fresh, width, from_last[last])
