"""Live: a door whose days come one by one."""

from facesagain.checks import MOST_DAYS, check_apart, check_width, is_between, is_row
from facesagain.errors import InvalidIndex, InvalidRow, NothingToUndo
from facesagain.gaps import check_possible
from facesagain.longer import range_within


class Door:
    """The numbers of unlike visitors at a door, day by day; together they always are a possible sheet."""

    def __init__(self, width):
        check_width(width, MOST_DAYS)
        self._width = width
        self._rows = []

    def add(self, row):
        """Add the numbers of a new day."""
        length = min(len(self._rows) + 1, self._width)
        if not is_row(row, length):
            raise InvalidRow(f"the new day needs a list of {length} integers from 0 on")
        check_possible(self._rows + [row])
        self._rows.append(list(row))

    def undo(self):
        """Take back the last day that was added."""
        if len(self._rows) == 0:
            raise NothingToUndo("there are no days")
        self._rows.pop()

    def mark(self):
        """How many days there are, for undo_to."""
        return len(self._rows)

    def undo_to(self, index):
        """Take back days until so many are left."""
        if not is_between(index, 0, len(self._rows)):
            raise InvalidIndex(f"there are {len(self._rows)} days")
        del self._rows[index:]

    def twin(self):
        """A door with the same days that goes its own way from here on."""
        door = Door(self._width)
        door._rows = self.sheet
        return door

    @property
    def width(self):
        """The width that the door was made with."""
        return self._width

    @property
    def sheet(self):
        """The sheet of the days so far, an empty list without days."""
        return [list(row) for row in self._rows]

    def month(self, first, last):
        """The tuple (least, greatest) of the number of unlike visitors in a stretch of the days so far."""
        check_apart(self._rows, first, last, 0)
        return range_within(self._rows, first, last)

    def __len__(self):
        return len(self._rows)
