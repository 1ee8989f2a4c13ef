"""Families: what is one, which sheet it has, and one that has a sheet."""

from facesagain.checks import check_count, check_sheet, is_between, is_family_below, is_integer
from facesagain.errors import InvalidJoins
from facesagain.gaps import away_from, check_possible, fresh_on, gaps_in
from facesagain.sheets import sheet_of


def is_family(thing, count):
    """Whether any object is a family with days below count."""
    check_count(count)
    return is_family_below(thing, count)


def has_sheet(sheet, thing):
    """Whether any object is a family that has the sheet."""
    check_sheet(sheet)
    days = len(sheet)
    return is_family_below(thing, days) and sheet_of(thing, days, len(sheet[-1])) == sheet


def some_family(sheet):
    """A family that has the sheet, in which nobody who is away comes again."""
    check_sheet(sheet)
    check_possible(sheet)
    return family_with_joins(sheet, [])


def joined_family(sheet, joins):
    """A family that has the sheet, in which just these visitors who are away come again."""
    check_sheet(sheet)
    _check_joins(sheet, joins)
    check_possible(sheet)
    _check_sums(sheet, joins)
    return family_with_joins(sheet, joins)


def _check_joins(sheet, joins):
    """Raise InvalidJoins for what is no ascending list of joins of unlike pairs of days."""
    if not _is_joins(sheet, joins):
        raise InvalidJoins("joins are an ascending list of (first, second, number), each pair of days at most once")


def _is_joins(sheet, joins):
    """Whether any object is an ascending list of joins of unlike pairs of days."""
    if type(joins) != list:
        return False
    previous = ()
    for join in joins:
        # The pairs alone are compared: one pair of days may not stand twice, whatever its numbers.
        if not _is_join(sheet, join) or not previous < join[:2]:
            return False
        previous = join[:2]
    return True


def _is_join(sheet, join):
    """Whether any object is a tuple (first, second, number) of days that are the width or more apart."""
    if type(join) != tuple or len(join) != 3:
        return False
    first, second, number = join
    days = len(sheet)
    if not is_between(first, 0, days - 1) or not is_between(second, first + len(sheet[-1]), days - 1):
        return False
    return is_integer(number) and number >= 1


def _check_sums(sheet, joins):
    """Raise InvalidJoins where the joins of a day together are more than are away, or than are fresh."""
    for day in range(len(sheet)):
        if sum([number for first, _, number in joins if first == day]) > away_from(sheet, day):
            raise InvalidJoins(f"not so many visitors of day {day} are away behind it")
        if sum([number for _, second, number in joins if second == day]) > fresh_on(sheet, day):
            raise InvalidJoins(f"not so many visitors of day {day} are fresh on it")


def joins_among(away, fresh, width, total):
    """Joins of so many visitors together, or of as many as away and fresh let: dicts of numbers by day."""
    left = dict(away)
    joins = []
    # Who can be joined to a day can be joined to each later one too, so that no choice here is a wrong one.
    for second in sorted(fresh):
        room = min(fresh[second], total)
        for first in sorted(away):
            number = min(left[first], room)
            if number > 0 and first + width <= second:
                joins.append((first, second, number))
                left[first] -= number
                room -= number
                total -= number
    return joins


def family_with_joins(sheet, joins):
    """A family with just these joins, for a sheet that is known to be possible and joins that it lets."""
    return routed_family(ways_in(sheet, joins), lambda pattern: False)


def ways_in(sheet, joins):
    """For each day its ways (second, number): how many come next on which day, last those who do not, for None."""
    links = gaps_in(sheet) + joins
    ways = []
    for day, row in enumerate(sheet):
        own = [(second, number) for first, second, number in links if first == day]
        ways.append(own + [(None, row[0] - sum([number for _, number in own]))])
    return ways


def routed_family(ways, goes_first):
    """A family whose visitors go these ways; on each day the first ways are for patterns so far that go first."""
    arriving = [[] for _ in ways]
    family = []
    for day, own in enumerate(ways):
        new = sum([number for _, number in own]) - sum([many for _, many in arriving[day]])
        groups = [(pattern + (day,), many) for pattern, many in arriving[day] + [((), new)]]
        others = [group for group in groups if not goes_first(group[0])]
        # The groups are dealt out from the end of their list on.
        dealt = _dealt(others + [group for group in groups if goes_first(group[0])], own)
        for pattern, second, many in dealt:
            if second is None:
                family.append((pattern, many))
            else:
                arriving[second].append((pattern, many))
    return sorted(family)


def _dealt(groups, ways):
    """Tuples (pattern, second, many): groups (pattern, many) split among ways (second, number) of the same sum."""
    waiting = [(pattern, many) for pattern, many in groups if many > 0]
    dealt = []
    for second, number in ways:
        left = number
        # Each step uses up a group or a way, so there are fewer parts than groups and ways together: that keeps
        # a family far below the 2,000 tuples that it may have.
        while left > 0:
            pattern, many = waiting.pop()
            part = min(many, left)
            dealt.append((pattern, second, part))
            left -= part
            if part < many:
                waiting.append((pattern, many - part))
    return dealt
