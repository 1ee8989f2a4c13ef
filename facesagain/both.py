"""Both: how many visitors came on both of two days."""

from facesagain.checks import check_apart, check_sheet, is_between
from facesagain.errors import InvalidNumber
from facesagain.families import joins_among, routed_family, ways_in
from facesagain.gaps import away_from, check_possible, fresh_on, gaps_in
from facesagain.sheets import told_number

# Places beside the days, which are integers, and those where visitors who were away wait for a day.
PAST = "past"
END = "end"


def both_range(sheet, first, second):
    """The tuple (least, greatest) of the number of visitors who came on both days."""
    check_sheet(sheet)
    check_apart(sheet, first, second, 1)
    check_possible(sheet)
    return _range_of_both(sheet, first, second)


def both_family(sheet, first, second, number):
    """A family that has the sheet, with just so many visitors who came on both days."""
    check_sheet(sheet)
    check_apart(sheet, first, second, 1)
    check_possible(sheet)
    least, greatest = _range_of_both(sheet, first, second)
    if not is_between(number, least, greatest):
        raise InvalidNumber(f"there were {least} to {greatest} visitors on both days")
    left = _places(sheet, first, second)
    _let(left, second, END, number)
    _let(left, PAST, END, told_number(sheet, first, first) - number)
    _push(left, first)
    return routed_family(_ways_apart(sheet, first, second, left), lambda pattern: first in pattern)


def _range_of_both(sheet, first, second):
    """The tuple (least, greatest) for two days of a sheet that is known to be possible."""
    visits = told_number(sheet, first, first)
    to_second = _places(sheet, first, second)
    _let(to_second, second, END, visits)
    past_second = _places(sheet, first, second)
    _let(past_second, PAST, END, visits)
    return (visits - _push(past_second, first), _push(to_second, first))


def _places(sheet, first, second):
    """The dict of dicts of how many visitors of day first, at most, go from place to place up to the second day."""
    visits = told_number(sheet, first, first)
    width = len(sheet[-1])
    left = {}
    for day, later, gap in gaps_in(sheet):
        if first <= day < second:
            _let(left, day, later, gap)
    for day in range(first, second):
        _let(left, day, _waiting(day + width, second), away_from(sheet, day))
    for day in range(first + width, second + 1):
        # Who waits comes again on this day, or waits on.
        _let(left, _waiting(day, second), day, fresh_on(sheet, day))
        _let(left, _waiting(day, second), _waiting(day + 1, second), visits)
    for day in range(second + 1, len(sheet)):
        _let(left, day, PAST, visits)
    return left


def _waiting(day, second):
    """The place of those who were away so long that they may come again on a day."""
    if day > second:
        return PAST
    return f"waiting {day}"


def _let(left, place, other, number):
    """Let so many go from a place to another one."""
    left.setdefault(place, {})[other] = number
    # What has gone there may be taken back; nobody has gone yet.
    left.setdefault(other, {})[place] = 0


def _push(left, start):
    """Let as many go from a place to the end as can, and tell how many that are."""
    total = 0
    steps = _free_steps(left, start)
    while steps != []:
        part = min([left[place][other] for place, other in steps])
        for place, other in steps:
            left[place][other] -= part
            left[other][place] += part
        total += part
        steps = _free_steps(left, start)
    return total


def _free_steps(left, start):
    """The list of the steps of a shortest way to the end on which somebody more can go, empty for none."""
    came_from = {start: None}
    reached = [start]
    while reached != [] and END not in came_from:
        following = []
        for place in reached:
            for other, number in left[place].items():
                if number > 0 and other not in came_from:
                    came_from[other] = place
                    following.append(other)
        reached = following
    steps = []
    place = END
    while came_from.get(place) is not None:
        steps.append((came_from[place], place))
        place = came_from[place]
    return steps


def _ways_apart(sheet, first, second, left):
    """The ways after which, from day first up to the second one, the visitors of day first take the first ones."""
    joins = _joins_of(sheet, first, second, left)
    ways = ways_in(sheet, joins)
    width = len(sheet[-1])
    for day in range(first, second):
        # All who are joined are visitors of day first, so that the number of such a way is their part of it, too.
        parts = {later: left[later][day] for later, _ in ways[day] if later is not None and later < day + width}
        joined = sum([number for place, _, number in joins if place == day])
        parts[None] = left[_waiting(day + width, second)][day] - joined
        own = [(later, parts.get(later, number)) for later, number in ways[day]]
        ways[day] = own + [(later, number - parts.get(later, number)) for later, number in ways[day]]
    return ways


def _joins_of(sheet, first, second, left):
    """Joins of those who, by what has gone from place to place, waited and came again up to the second day."""
    width = len(sheet[-1])
    days = range(first + width, second + 1)
    away = {day - width: left[_waiting(day, second)][day - width] for day in days}
    fresh = {day: left[day][_waiting(day, second)] for day in days}
    return joins_among(away, fresh, width, sum(fresh.values()))
