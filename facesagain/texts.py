"""Texts: sheets and families as words with single blanks between."""

from facesagain.checks import MOST_DAYS, MOST_GROUPS, check_family, check_sheet, is_group
from facesagain.errors import InvalidText

MOST_DIGITS = 30
EMPTY_FAMILY = "-"


def write_sheet(sheet):
    """The text of a sheet: a word for each row."""
    check_sheet(sheet)
    return " ".join([",".join([str(number) for number in row]) for row in sheet])


def read_sheet(text):
    """The sheet that a text tells."""
    sheet = []
    for place, word in enumerate(text.split(" ")):
        row = read_row(word)
        if row is None or not _can_follow(sheet, row):
            raise InvalidText(place)
        sheet.append(row)
    return sheet


def _can_follow(rows, row):
    """Whether a row of one or more numbers can be the next one of a sheet that begins with these rows."""
    day = len(rows)
    if day == MOST_DAYS:
        return False
    length = len(rows[-1]) if day > 0 else 0
    return len(row) == length or (length == day and len(row) == day + 1)


def write_family(family):
    """The text of a family: a word for each tuple."""
    check_family(family, MOST_DAYS)
    if family == []:
        return EMPTY_FAMILY
    return " ".join([_group_text(pattern, many) for pattern, many in family])


def _group_text(pattern, many):
    """The word of one tuple of a family."""
    days = ".".join([str(day) for day in pattern])
    return f"{days}:{many}"


def read_family(text):
    """The family that a text tells."""
    words = text.split(" ")
    if words == [EMPTY_FAMILY]:
        return []
    if words[0] == EMPTY_FAMILY:
        raise InvalidText(1)
    family = []
    # The empty tuple is less than every pattern, so the first word needs no case of its own.
    previous = ()
    for place, word in enumerate(words):
        group = _read_group(word)
        if place == MOST_GROUPS or not is_group(group, MOST_DAYS) or not previous < group[0]:
            raise InvalidText(place)
        family.append(group)
        previous = group[0]
    return family


def _read_group(word):
    """The tuple (pattern, many) of a word, with None in the place of what is no number."""
    days, _, many = word.partition(":")
    return (tuple([read_number(day) for day in days.split(".")]), read_number(many))


def read_row(word):
    """The list of the numbers of a word, None if it is no row."""
    numbers = [read_number(part) for part in word.split(",")]
    if None in numbers:
        return None
    return numbers


def read_number(word):
    """The number that a word is, None if it is none."""
    if not word.isascii() or not word.isdigit() or len(word) > MOST_DIGITS:
        return None
    if word.startswith("0") and word != "0":
        return None
    return int(word)
