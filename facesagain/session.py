"""Session: lines that open doors, add days and ask, and their answers."""

from facesagain.both import both_range
from facesagain.ends import all_range, gone_range, new_range
from facesagain.errors import FaceError
from facesagain.gaps import gap_of
from facesagain.live import Door
from facesagain.texts import read_number, read_row, write_sheet

DONE = "ok"
UNKNOWN = "?"
NO_DAYS = "-"

# What kinds of words stand behind the first word of a line.
FORMS = {
    "door": ("number",),
    "add": ("row",),
    "undo": (),
    "back": ("number",),
    "days": (),
    "sheet": (),
    "month": ("number", "number"),
    "all": (),
    "new": ("number",),
    "gone": ("number",),
    "gap": ("number", "number"),
    "both": ("number", "number"),
}
# These lines ask for a sheet, which a door without days does not have.
ABOUT_SHEETS = ("all", "new", "gone", "gap", "both")


# Each of the next functions does what one kind of line says, and returns its answer.


def _add(door, values):
    door.add(values[0])
    return DONE


def _undo(door, _):
    door.undo()
    return DONE


def _back(door, values):
    door.undo_to(values[0])
    return DONE


def _days(door, _):
    return str(door.mark())


def _sheet(door, _):
    if len(door) == 0:
        return NO_DAYS
    return write_sheet(door.sheet)


def _month(door, values):
    return _range_text(door.month(values[0], values[1]))


def _all(door, _):
    return _range_text(all_range(door.sheet))


def _new(door, values):
    return _range_text(new_range(door.sheet, values[0]))


def _gone(door, values):
    return _range_text(gone_range(door.sheet, values[0]))


def _gap(door, values):
    return str(gap_of(door.sheet, values[0], values[1]))


def _both(door, values):
    return _range_text(both_range(door.sheet, values[0], values[1]))


ACTIONS = {
    "add": _add,
    "undo": _undo,
    "back": _back,
    "days": _days,
    "sheet": _sheet,
    "month": _month,
    "all": _all,
    "new": _new,
    "gone": _gone,
    "gap": _gap,
    "both": _both,
}


def _range_text(ends):
    """The text of a tuple (least, greatest)."""
    least, greatest = ends
    return f"{least}..{greatest}"


def session(rows):
    """The answers to the lines of a string, one line for each."""
    door = None
    answers = []
    for line in rows.split("\n"):
        try:
            door, answer = _answered(door, line.split(" "))
        except FaceError as error:
            answer = type(error).__name__
        answers.append(answer)
    return "\n".join(answers)


def _answered(door, words):
    """The tuple (door, answer) behind the words of a line; door is None as long as there is none."""
    values = _values(words)
    if values is None:
        return (door, UNKNOWN)
    word = words[0]
    if word == "door":
        return (Door(values[0]), DONE)
    if door is None or (len(door) == 0 and word in ABOUT_SHEETS):
        return (door, UNKNOWN)
    action = ACTIONS[word]
    return (door, action(door, values))


def _values(words):
    """The list of the values of the words behind the first one, None for what is no line of a session."""
    form = FORMS.get(words[0])
    if form is None or len(words) != len(form) + 1:
        return None
    values = [read_row(word) if kind == "row" else read_number(word) for kind, word in zip(form, words[1:])]
    if None in values:
        return None
    return values
